import PyProof.Rows.All
import Wide.All
import OpenK.AllK
import Wide.FinOn
import HandS.ForMost
import HandS.Wide
import HandS.Codes
import HandS.Conv
import HandS.TupAny
import HandS.Style
import HandS.IsInst
import HandS.FStr
import HandS.DictComp
import HandS.NoneIn
import HandS.Strs
import KE.GoesEnumKw
import HandS.Exc
import HandS.ExcInit
import HandS.ClsMeth
import HandS.ExcValue
import HandS.TryOnly
import HandS.ExcIs
import HandS.ExcField
import HandS.WordsExc
import HandS.RaiseMore
import PyProof.ExcBaseAll.ValueError
import KE.GoesEnum
import KE.GoesMore
import PyProof.EnumMake
import HandS.Zip
import HandS.List
import KE.KTupSum
import PyProof.WalkInts
import HandS.Gcd
import PyProof.Rows.StrJoinMade
import HandS.Words
import PySem.Challenge.RW_farplaces_k27_kept_farthest_and_middle
set_option Elab.async false
set_option linter.all false
set_option maxRecDepth 100000
set_option maxHeartbeats 8000000
namespace Far
open PySem PySem.Spec PyProof.Rows L2
open C8 (pss_cut tCut)
def topS (i : Nat) : Stmt := PySem.Challenge.pw_farplaces_k27_kept_farthest_and_middle.main.body.getD i (.Pass ⟨0, 0, 0, 0⟩)

theorem hd_of {A : Around} {k : Nat} (hr : Room k A) (h : 1 ≤ k) : A.units + 64 < cLine := by
  have := hr.units
  omega

/-- a def of the module that may be called by its name -/
structure Cal (P : Program) (w : World) (K : PySem.W.Frag) (mg : Str → Option Value) (base : Heap) (k : Nat) (x : Str) (sp : Sp) : Prop where
  ex : ∃ (f : Addr) (fd : FuncData) (ps : List Str), FnOk P w K mg base CX0 k f fd ps sp ∧ mg x = some (.ref f) ∧ PySem.W.keepIn K (.ref f) = true ∧ Binds K fd ps []
theorem pe_c {X : Cx} {k j : Nat} {x : Str} {sp : Sp} {p pos : Pos} {e : Expr} {es : List Expr} {t : TA} (c : Cal X.prog X.w X.K X.mg X.base k x sp) (hr : Room j X.A) (hk : k ≤ j) (hg : Gl X x) (ha : PA X (e :: es) t)
    (hdb : (x == ("__debug__" : Str)) = false := by decide) (he : starEach (e :: es) X.env = (false, eval e X.env) :: starEach es X.env := by rfl) (hpl : (backTo pos (starEach es X.env)).any (·.1) = false := by rfl) :
    PE X (.Call (.Name x p) (e :: es) [] pos) (tCall sp [] E0 t) := by
  obtain ⟨f, fd, ps, F, hm, kp, b⟩ := c.ex
  exact pe_call F (hr.mono hk) hg hm kp b .nil pass0 ha hdb he hpl

theorem bt_len : bootBuiltins ("len" : Str) = some (.builtin "len") := by decide +kernel
theorem bt_sum : bootBuiltins ("sum" : Str) = some (.builtin "sum") := by decide +kernel
theorem bt_max : bootBuiltins ("max" : Str) = some (.builtin "max") := by decide +kernel
theorem bt_all : bootBuiltins ("all" : Str) = some (.builtin "all") := by decide +kernel
theorem bt_isinstance : bootBuiltins ("isinstance" : Str) = some (.builtin "isinstance") := by decide +kernel
theorem bt_int : bootBuiltins ("int" : Str) = some (.type "int") := by decide +kernel
theorem bt_str : bootBuiltins ("str" : Str) = some (.type "str") := by decide +kernel
theorem bt_tuple : bootBuiltins ("tuple" : Str) = some (.type "tuple") := by decide +kernel
theorem bt_bool : bootBuiltins ("bool" : Str) = some (.type "bool") := by decide +kernel
theorem bt_list : bootBuiltins ("list" : Str) = some (.type "list") := by decide +kernel
/-- rules with the written part named, for use within a comprehension -/
def rLenV (K : PySem.W.Frag) : List V → Hp → VK → Prop := fun xs H Q => ∃ x n, xs = [x] ∧ LenV K x H n ∧ Q (.int n) H
theorem lenK {X : Cx} {K : PySem.W.Frag} (e : X.K = K := by rfl) : CallR X (.builtin "len") (rLenV K) := by
  subst e
  exact call_len
theorem ixl {X : Cx} {K : PySem.W.Frag} (e : X.K = K := by rfl) : IxR X (rIxL K) := by
  subst e
  exact ix_list
theorem ixt {X : Cx} {K : PySem.W.Frag} (e : X.K = K := by rfl) : IxR X (rIxT K) := by
  subst e
  exact ix_tup
/-- what the module's names hold that are built-ins, and its constants -/
structure Txt (mg : Str → Option Value) : Prop where
  len : mg "len" = none
  sum : mg "sum" = none
  range : mg "range" = none
  int : mg "int" = none
  max : mg "max" = none
  list : mg "list" = none
  tuple : mg "tuple" = none

/-- all that stood stands as it was, but for the one object -/
def SmX (d : Addr) (H H' : Hp) : Prop := ∀ b o, b ≠ d → H b = some o → H' b = some o
theorem SmX.refl {d : Addr} (H : Hp) : SmX d H H := fun _ _ _ h => h
theorem SmX.trans {d : Addr} {H H1 H2 : Hp} (a : SmX d H H1) (b : SmX d H1 H2) : SmX d H H2 := fun x o n h => b x o n (a x o n h)
theorem SmX.new {d : Addr} {H H1 : Hp} {p : Addr} {o : HO} (a : SmX d H H1) (n : H1 p = none) : SmX d H (upd H1 p o) := fun x u nx h => by
  rw [upd_ne (ne_of_none (a x u nx h) n)]
  exact a x u nx h
theorem SmX.mut {d : Addr} {H H1 : Hp} {o : HO} (a : SmX d H H1) : SmX d H (upd H1 d o) := fun x u nx h => by
  rw [upd_ne nx]
  exact a x u nx h
/-- an object that the first heap does not know may change -/
theorem SmX.put {d : Addr} {H H1 : Hp} {p : Addr} {o : HO} (a : SmX d H H1) (n : H p = none) : SmX d H (upd H1 p o) := fun x u nx h => by
  rw [upd_ne (ne_of_none h n)]
  exact a x u nx h

/-- the deck at d, its cells at c: at most n were mixed -/
def DeckAt (H : Hp) (d c : Addr) (n : Nat) : Prop := ∃ (cs : List Int) (i l m z : Int), H d = some (.lst [.ref c, .int i, .int l, .int m, .int z]) ∧ H c = some (.lst (cs.map V.int)) ∧ c ≠ d ∧ cs.length ≤ 63 ∧ 0 ≤ i ∧ i ≤ 63 ∧ 0 ≤ l ∧ 0 ≤ m ∧ m ≤ n
theorem DeckAt.new {H : Hp} {d c p : Addr} {o : HO} {n : Nat} (h : DeckAt H d c n) (np : H p = none) : DeckAt (upd H p o) d c n := by
  obtain ⟨cs, i, l, m, z, h1, h2, h3⟩ := h
  exact ⟨cs, i, l, m, z, by rw [upd_ne (ne_of_none h1 np)]; exact h1, by rw [upd_ne (ne_of_none h2 np)]; exact h2, h3⟩
theorem DeckAt.put {H : Hp} {d c p : Addr} {o : HO} {n : Nat} (h : DeckAt H d c n) (nd : p ≠ d) (nc : p ≠ c) : DeckAt (upd H p o) d c n := by
  obtain ⟨cs, i, l, m, z, h1, h2, h3⟩ := h
  exact ⟨cs, i, l, m, z, by rw [upd_ne nd.symm]; exact h1, by rw [upd_ne nc.symm]; exact h2, h3⟩
theorem DeckAt.nd {H : Hp} {d c p : Addr} {n : Nat} (h : DeckAt H d c n) (np : H p = none) : p ≠ d := fun e => by
  obtain ⟨_, _, _, _, _, h1, _⟩ := h
  rw [e, h1] at np
  cases np
theorem DeckAt.nc {H : Hp} {d c p : Addr} {n : Nat} (h : DeckAt H d c n) (np : H p = none) : p ≠ c := fun e => by
  obtain ⟨_, _, _, _, _, _, h2, _⟩ := h
  rw [e, h2] at np
  cases np
theorem DeckAt.mono {H : Hp} {d c : Addr} {n m : Nat} (h : DeckAt H d c n) (le : n ≤ m) : DeckAt H d c m := by
  obtain ⟨cs, i, l, m', z, h1, h2, h3, h4, h5, h6, h7, h8, h9⟩ := h
  exact ⟨cs, i, l, m', z, h1, h2, h3, h4, h5, h6, h7, h8, by omega⟩
theorem SmX.free {d : Addr} {H H' : Hp} {p : Addr} (a : SmX d H H') (n : H' p = none) (nd : p ≠ d) : H p = none := by
  cases q : H p with
  | none => rfl
  | some o =>
    rw [a p o nd q] at n
    cases n

abbrev s_law_mix : Stmt := topS 28
abbrev N_law_mix : List Str := ["cell", "k", "number"]
theorem sc_law_mix : FnScope N_law_mix ["cell", "k"] (defScope s_law_mix) := ⟨rfl, rfl, rfl, by decide +kernel, rfl, by decide +kernel, by decide +kernel⟩
section
variable {P : Program} {w : World} {K : PySem.W.Frag} {mg : Str → Option Value} {base : Heap}
def spMix : Sp := fun vs H Q _ => ∃ c k : Int, vs = [.int c, .int k] ∧ 0 ≤ k ∧ k < 1000000000000 ∧ ∀ r : Int, 0 ≤ r → Q (.int r) H
theorem ok_mix {f : Addr} {fd : FuncData} (F : Fun K "_law_mix" "_law_mix" s_law_mix f fd) : FnOk P w K mg base CX0 1 f fd ["cell", "k"] spMix := by
  refine F.ok sc_law_mix (fun vs H Q E h => ?_) (fun cdv A outer s H vs Q E hr h => ?_)
  · obtain ⟨c, k, rfl, _⟩ := h
    rfl
  · obtain ⟨c, k, rfl, k0, k1, q⟩ := h
    refine ⟨_, (pss_cons (ps_set (i := 2) sc_law_mix.nd rfl (.inl rfl) (pe_op op_add (pe_op op_mod (pv 0) pe_int) (pe_op op_mul (pe_op op_mul pe_int (pv 1)) (pv 1))))
      (pss_cons (ps_set (i := 2) sc_law_mix.nd rfl (.inl rfl) (pe_op op_mod (pe_op op_add (pv 2) (pe_op op_mul pe_int (pv 1))) pe_int))
      (pss_cons (ps_set (i := 2) sc_law_mix.nd rfl (.inl rfl) (pe_op op_mod (pe_op op_mul (pv 2) (pv 2)) pe_int))
      (pss_one (ps_ret (pe_op op_fdiv (pe_op op_mod (pe_op op_mul (pv 2) (pe_op op_add (pv 2) pe_int)) pe_int) pe_int)))))), ?_⟩
    refine ⟨_, rfl, _, _, rfl, rfl, (by show (0 : Int) < _; decide), _, rfl, _, _, rfl, rfl, .inl (by decide), _, rfl, _, _, rfl, rfl, .inr ⟨by omega, by omega⟩, _, _, rfl, rfl, ?_⟩
    refine ⟨_, rfl, _, rfl, _, _, rfl, rfl, .inl (by decide), _, _, rfl, rfl, _, _, rfl, rfl, (by show (0 : Int) < _; decide), ?_⟩
    generalize hm : (c % 2147483629 + 1000003 * k * k + 7919 * k) % 2147483629 = m
    have m0 : 0 ≤ m := by omega
    have m1 : m < 2147483629 := by omega
    refine ⟨_, rfl, _, rfl, _, _, rfl, rfl, .inl ⟨by omega, by omega⟩, _, _, rfl, rfl, (by show (0 : Int) < _; decide), ?_⟩
    generalize hn : m * m % 2147483587 = n
    have n0 : 0 ≤ n := by omega
    have n1 : n < 2147483587 := by omega
    refine ⟨_, rfl, _, rfl, _, _, rfl, rfl, _, _, rfl, rfl, .inl ⟨by omega, by omega⟩, _, _, rfl, rfl, (by show (0 : Int) < _; decide), _, _, rfl, rfl, ⟨by decide, by decide⟩, ?_⟩
    exact q _ (by omega)

abbrev s_law_next : Stmt := topS 30
abbrev N_law_next : List Str := ["deck", "many", "cell", "found"]
theorem sc_law_next : FnScope N_law_next ["deck", "many"] (defScope s_law_next) := ⟨rfl, rfl, rfl, by decide +kernel, rfl, by decide +kernel, by decide +kernel⟩
/-- a number from 0 on below many; the deck stands a step further; what else stood stands -/
def spNext : Sp := fun vs H Q _ => ∃ (d c : Addr) (n : Nat) (many : Int), vs = [.ref d, .int many] ∧ DeckAt H d c n ∧ n < 100000 ∧ 0 < many ∧ many < 2 ^ 60 ∧ ∀ (H' : Hp) (r : Int), 0 ≤ r → r < many → SmX d H H' → DeckAt H' d c (n + 1) → Q (.int r) H'
theorem ok_next {f : Addr} {fd : FuncData} (F : Fun K "_law_next" "_law_next" s_law_next f fd) (T : Txt mg) (C_law_mix : Cal P w K mg base 1 "_law_mix" spMix) : FnOk P w K mg base CX0 2 f fd ["deck", "many"] spNext := by
  refine F.ok sc_law_next (fun vs H Q E h => ?_) (fun cdv A outer s H vs Q E hr h => ?_)
  · obtain ⟨d, c, n, many, rfl, _⟩ := h
    rfl
  · obtain ⟨d, c, n, many, rfl, hD, hn, hm0, hm1, q⟩ := h
    refine ⟨_, (pss_cut (ps_if (PW.pt (pw_and (pt_cmpR op_eq (pe_ix ix_list (pv 0) pe_int (fun _ _ => rfl)) pe_int (nomark _)) (pw_and1 (pt_cmpR op_lt (pe_ix ix_list (pv 0) pe_int (fun _ _ => rfl)) (pe_callB call_len_seq (by rfl) T.len bt_len (pa_cons (pe_ix ix_list (pv 0) pe_int (fun _ _ => rfl)) pa_nil)) (nomark _)))))
        (pss_cons (ps_set (i := 2) sc_law_next.nd rfl (.inl rfl) (pe_ix ix_list (pe_ix ix_list (pv 0) pe_int (fun _ _ => rfl)) (pe_ix ix_list (pv 0) pe_int (fun _ _ => rfl)) (fun _ _ => rfl)))
        (pss_cons (ps_asg (pe_op op_add (pe_ix ix_list (pv 0) pe_int (fun _ _ => rfl)) pe_int) (pg_sub (pv 0) pe_int set_list))
        (pss_cons (ps_if (pt_cmpR op_lt (pv 2) (pe_op op_pow pe_int pe_int) (nomark _))
          (pss_one (ps_ret (pe_op op_mod (pe_c C_law_mix hr (by decide) rfl (pa_cons (pv 2) (pa_cons (pe_ix ix_list (pv 0) pe_int (fun _ _ => rfl)) pa_nil))) (pv 1))))
          pss_nil)
        (pss_one (ps_asg (pv 2) (pg_sub (pv 0) pe_int set_list))))))
        pss_nil)
      (pss_cut (ps_if (pt_cmpR op_gt (pe_ix ix_list (pv 0) pe_int (fun _ _ => rfl)) pe_int (nomark _))
        (pss_cons (ps_set (i := 3) sc_law_next.nd rfl (.inl rfl) (pe_op op_mod (pe_ix ix_list (pv 0) pe_int (fun _ _ => rfl)) (pv 1)))
        (pss_cons (ps_asg (pe_op op_fdivW (pe_ix ix_list (pv 0) pe_int (fun _ _ => rfl)) (pv 1)) (pg_sub (pv 0) pe_int set_list))
        (pss_one (ps_ret (pv 3)))))
        pss_nil)
      (pss_cons (ps_asg (pe_op op_add (pe_ix ix_list (pv 0) pe_int (fun _ _ => rfl)) pe_int) (pg_sub (pv 0) pe_int set_list))
      (pss_one (ps_ret (pe_op op_mod (pe_c C_law_mix hr (by decide) rfl (pa_cons (pe_ix ix_list (pv 0) pe_int (fun _ _ => rfl)) (pa_cons (pe_op op_add (pe_ix ix_list (pv 0) pe_int (fun _ _ => rfl)) pe_int) pa_nil))) (pv 1))))))), ?_⟩
    refine ⟨fun σ' H' => (∃ x y, σ' = [some (.ref d), some (.int many), x, y]) ∧ SmX d H H' ∧ DeckAt H' d c n, ?_, fun σ' H1 hM => ?_⟩
    · obtain ⟨cs, i, l, m, z, h1, h2, ncd, len, i0, i63, l0, m0, mn⟩ := id hD
      refine ⟨_, rfl, d, _, 2, _, rfl, rfl, SqL.of h1, rfl, rfl, _, rfl, ?_⟩
      refine ite2 (fun e => ?_) (fun e => ?_)
      · refine ⟨_, rfl, d, _, 1, _, rfl, rfl, SqL.of h1, rfl, _, rfl, d, _, 0, _, rfl, rfl, SqL.of h1, rfl, c, _, rfl, .inl (SqL.of h2), _, _, rfl, rfl, _, rfl, ?_⟩
        refine ite2 (fun e2 => ?_) (fun e2 => ?_)
        · have lt : i < cs.length := by simpa using of_decide_eq_true e2
          have gi : (cs.map V.int)[i.toNat]? = some (.int (cs[i.toNat]'(by omega))) := by
            rw [List.getElem?_map, List.getElem?_eq_getElem (by omega)]
            rfl
          have ei : i = ((i.toNat : Nat) : Int) := by omega
          refine ⟨_, rfl, d, _, 0, _, rfl, rfl, SqL.of h1, rfl, _, rfl, d, _, 1, _, rfl, rfl, SqL.of h1, rfl, c, _, i, _, rfl, rfl, SqL.of h2, at_of ei gi, ?_⟩
          generalize cs[i.toNat]'(by omega) = cell
          refine ⟨_, rfl, d, _, 1, _, rfl, rfl, SqL.of h1, rfl, i, 1, rfl, rfl, ?_⟩
          refine ⟨_, rfl, d, _, 1, 1, rfl, rfl, h1, rfl, ?_⟩
          have S1 : SmX d H (upd H d (.lst [.ref c, .int (i + 1), .int l, .int m, .int z])) := (SmX.refl H).mut
          have h1' : (upd H d (.lst [.ref c, .int (i + 1), .int l, .int m, .int z])) d = some (.lst [.ref c, .int (i + 1), .int l, .int m, .int z]) := upd_same
          have h2' : (upd H d (.lst [.ref c, .int (i + 1), .int l, .int m, .int z])) c = some (.lst (cs.map V.int)) := by
            rw [upd_ne ncd]
            exact h2
          refine ⟨_, rfl, _, _, rfl, rfl, ⟨by decide, by decide, by decide⟩, _, _, rfl, rfl, _, rfl, ?_⟩
          refine ite2 (fun e3 => ?_) (fun e3 => ?_)
          · refine ⟨_, rfl, _, rfl, d, _, 1, _, rfl, rfl, SqL.of h1', rfl, ?_⟩
            refine ⟨cell, i + 1, rfl, by omega, by omega, fun r r0 => ?_⟩
            refine ⟨_, rfl, _, _, rfl, rfl, hm0, ?_⟩
            exact q _ _ (Int.emod_nonneg _ (by omega)) (Int.emod_lt_of_pos _ hm0) S1 ⟨cs, i + 1, l, m, z, h1', h2', ncd, len, by omega, by omega, l0, m0, by omega⟩
          · have big : (10 : Int) ^ 18 ≤ cell := by
              have := of_decide_eq_false (by simpa using e3 : decide (cell < (10 : Int) ^ 18) = false)
              omega
            refine ⟨_, rfl, _, rfl, d, _, 2, 2, rfl, rfl, h1', rfl, ?_⟩
            refine ⟨⟨_, _, rfl⟩, S1.mut, cs, i + 1, cell, m, z, upd_same, by rw [upd_ne ncd]; exact h2', ncd, len, by omega, by omega, by omega, m0, by omega⟩
        · exact ⟨⟨_, _, rfl⟩, SmX.refl H, hD⟩
      · exact ite2 (fun e2 => absurd e2 (by simp)) fun _ => ⟨⟨_, _, rfl⟩, SmX.refl H, hD⟩
    · obtain ⟨⟨x, y, rfl⟩, SM, cs, i, l, m, z, h1, h2, ncd, len, i0, i63, l0, m0, mn⟩ := hM
      refine ⟨fun σ' H' => σ' = [some (.ref d), some (.int many), x, y] ∧ H' = H1, ?_, fun σ' H2 hM => ?_⟩
      · refine ⟨_, rfl, d, _, 2, _, rfl, rfl, SqL.of h1, rfl, _, _, rfl, rfl, _, rfl, ?_⟩
        refine ite2 (fun e => ?_) (fun e => ⟨rfl, rfl⟩)
        refine ⟨_, rfl, d, _, 2, _, rfl, rfl, SqL.of h1, rfl, _, rfl, _, _, rfl, rfl, hm0, ?_⟩
        refine ⟨_, rfl, d, _, 2, _, rfl, rfl, SqL.of h1, rfl, _, rfl, _, _, rfl, rfl, wide_div (b := 60) hm0 (by omega) (by decide) (by decide), ?_⟩
        refine ⟨_, rfl, d, _, 2, 2, rfl, rfl, h1, rfl, ?_⟩
        refine ⟨_, rfl, ?_⟩
        refine q _ _ (Int.emod_nonneg _ (by omega)) (Int.emod_lt_of_pos _ hm0) SM.mut ⟨cs, i, l / many, m, z, upd_same, by rw [upd_ne ncd]; exact h2, ncd, len, i0, i63, Int.ediv_nonneg l0 (by omega), m0, by omega⟩
      · obtain ⟨rfl, rfl⟩ := hM
        refine ⟨_, rfl, d, _, 3, _, rfl, rfl, SqL.of h1, rfl, _, _, rfl, rfl, _, rfl, d, _, 3, 3, rfl, rfl, h1, rfl, ?_⟩
        have h1' : (upd H2 d (.lst [.ref c, .int i, .int l, .int (m + 1), .int z])) d = some (.lst [.ref c, .int i, .int l, .int (m + 1), .int z]) := upd_same
        refine ⟨_, rfl, d, _, 4, _, rfl, rfl, SqL.of h1', rfl, _, rfl, d, _, 3, _, rfl, rfl, SqL.of h1', rfl, _, _, rfl, rfl, ?_⟩
        refine ⟨z, m + 1 + _, rfl, by omega, by omega, fun r r0 => ?_⟩
        refine ⟨_, rfl, _, _, rfl, rfl, hm0, ?_⟩
        exact q _ _ (Int.emod_nonneg _ (by omega)) (Int.emod_lt_of_pos _ hm0) SM.mut ⟨cs, i, l, m + 1, z, h1', by rw [upd_ne ncd]; exact h2, ncd, len, i0, i63, l0, by omega, by omega⟩
end
end Far

namespace Far
open PySem PySem.Spec PyProof.Rows L2
open C8 (pss_cut tCut)
open SX (S)

/-- the signs of a name -/
def NameOk (l : List Nat) : Prop := 1 ≤ l.length ∧ l.length ≤ 8 ∧ ∀ c ∈ l, 97 ≤ c ∧ c ≤ 122
theorem sz_le {n : Nat} (h : n ≤ 100000) : n ≤ sizeLine := Nat.le_trans h (by decide)
theorem sz_lt {n : Nat} (h : n ≤ 100000) : n < sizeLine := Nat.lt_of_le_of_lt h (by decide)
theorem atI_in {α : Type} {xs : List α} {i : Int} (h0 : 0 ≤ i) (h1 : i < xs.length) : ∃ v, atI xs i = some v ∧ v ∈ xs := by
  have e : i = ((i.toNat : Nat) : Int) := by omega
  have l : i.toNat < xs.length := by omega
  refine ⟨xs[i.toNat], ?_, List.getElem_mem l⟩
  have q := atI_nat (List.getElem?_eq_getElem l)
  rwa [← e] at q
theorem S_of (z : Str) : ∃ l, z = S l := ⟨z.cps.toList, (SX.S_tl z).symm⟩
theorem join_none : ∀ ys : List (List Nat), TL.joinL [] ys = ys.flatten
  | [] => rfl
  | [x] => by simp [TL.joinL]
  | x :: y :: r => by
    have ih := join_none (y :: r)
    show x ++ ([] ++ TL.joinL [] (y :: r)) = x ++ (y :: r).flatten
    rw [ih]
    rfl
theorem flat_one (cs : List Nat) : (cs.map fun c => [c]).flatten = cs := by
  induction cs with
  | nil => rfl
  | cons c r ih => rw [List.map_cons, List.flatten_cons, ih]; rfl
theorem one_sum' (cs : List Nat) : ((cs.map fun c => S [c]).map (·.length)).sum = cs.length := by
  induction cs with
  | nil => rfl
  | cons c r ih =>
    rw [List.map_cons, List.map_cons, List.sum_cons, ih, List.length_cons, SX.S_len]
    show 1 + r.length = r.length + 1
    omega
abbrev s_law_name : Stmt := topS 31
abbrev N_law_name : List Str := ["deck", "size", "letters", "k"]
theorem sc_law_name : FnScope N_law_name ["deck"] (defScope s_law_name) := ⟨rfl, rfl, rfl, by decide +kernel, rfl, by decide +kernel, by decide +kernel⟩
section
variable {P : Program} {w : World} {K : PySem.W.Frag} {mg : Str → Option Value} {base : Heap}
def spName : Sp := fun vs H Q _ => ∃ (d c : Addr) (n : Nat), vs = [.ref d] ∧ DeckAt H d c n ∧ n < 90000 ∧ ∀ (H' : Hp) (l : List Nat), NameOk l → SmX d H H' → DeckAt H' d c (n + 11) → Q (.str (S l)) H'
theorem ok_name {f : Addr} {fd : FuncData} (F : Fun K "_law_name" "_law_name" s_law_name f fd) (T : Txt mg) (C_law_next : Cal P w K mg base 2 "_law_next" spNext) : FnOk P w K mg base CX0 3 f fd ["deck"] spName := by
  refine F.ok sc_law_name (fun vs H Q E h => ?_) (fun cdv A outer s H vs Q E hr h => ?_)
  · obtain ⟨d, c, n, rfl, _⟩ := h
    rfl
  · obtain ⟨d, c, n, rfl, hD, hn, q⟩ := h
    refine ⟨_, (pss_cons (ps_set (i := 1) sc_law_name.nd rfl (.inl rfl) (pe_ix ix_list (pe_lst (pa_cons pe_int (pa_cons pe_int (pa_cons pe_int (pa_cons (pe_op op_add pe_int (pe_c C_law_next hr (by decide) rfl (pa_cons (pv 0) (pa_cons pe_int pa_nil)))) pa_nil))))) (pe_c C_law_next hr (by decide) rfl (pa_cons (pv 0) (pa_cons pe_int pa_nil))) (fun _ _ => rfl)))
      (pss_cons (ps_set (i := 2) sc_law_name.nd rfl (.inr rfl) (pe_ix ix_list (pe_lst (pa_cons pe_str (pa_cons pe_str (pa_cons pe_str (pa_cons pe_str pa_nil))))) (pe_c C_law_next hr (by decide) rfl (pa_cons (pv 0) (pa_cons pe_int pa_nil))) (fun _ _ => rfl)))
      (pss_one (ps_ret (pe_join pe_str (pe_lc (own := [("k", 3)]) (g := gName 3) (tt := tYes) rfl sc_law_name.nd (pi_range1 (by rfl) T.range (pa_cons (pv 1) pa_nil)) (blkOk_by (N := N_law_name) (sc := defScope s_law_name) (by decide +kernel)) (fun _ _ _ _ _ => pg_name (i := 3) sc_law_name.nd rfl (Or.inl rfl)) (fun _ _ _ _ _ => pts_nil) (fun _ _ _ _ _ => (pe_ix ix_str (pv 2) (pe_c C_law_next hr (by decide) rfl (pa_cons (pv 0) (pa_cons (pe_callB (lenK (K := K)) (by rfl) T.len bt_len (pa_cons (pv 2) pa_nil)) pa_nil))) (fun _ _ => rfl))))))))), ?_⟩
    refine ⟨_, rfl, d, c, n, 8, rfl, hD, by omega, by decide, by decide, fun H1 r r0 r1 S1 D1 => ?_⟩
    refine ⟨_, _, rfl, rfl, (by show 4 ≤ sizeLine; decide), fun p np => ?_⟩
    have npd : p ≠ d := D1.nd np
    refine ⟨_, rfl, d, c, n + 1, 4, rfl, D1.new np, by omega, by decide, by decide, fun H2 r' r0' r1' S2 D2 => ?_⟩
    have hp : H2 p = some (.lst [.int 1, .int 2, .int 8, .int (1 + r)]) := S2 p _ npd upd_same
    obtain ⟨v, hv, mv⟩ := atI_in (xs := [V.int 1, .int 2, .int 8, .int (1 + r)]) r0' (by simpa using r1')
    have hs : ∃ sz : Int, v = .int sz ∧ 1 ≤ sz ∧ sz ≤ 8 := by
      simp only [List.mem_cons, List.not_mem_nil, or_false] at mv
      rcases mv with e | e | e | e <;> exact ⟨_, e, by omega, by omega⟩
    obtain ⟨sz, rfl, s1, s8⟩ := hs
    refine ⟨p, _, r', _, rfl, rfl, SqL.of hp, hv, ?_⟩
    have S12 : SmX d H H2 := (S1.new np).trans S2
    -- letters
    refine ⟨(by show 4 ≤ sizeLine; decide), fun p3 np3 => ?_⟩
    have npd3 : p3 ≠ d := D2.nd np3
    refine ⟨_, rfl, d, c, n + 2, 4, rfl, D2.new np3, by omega, by decide, by decide, fun H3 r'' r0'' r1'' S3 D3 => ?_⟩
    have hp3 := S3 p3 _ npd3 upd_same
    obtain ⟨v, hv, mv⟩ := atI_in (xs := [V.str ("abcdefghijklmnopqrstuvwxyz" : Str), .str ("ab" : Str), .str ("az" : Str), .str ("mno" : Str)]) r0'' (by simpa using r1'')
    have hs : ∃ ls : List Nat, v = .str (S ls) ∧ 1 ≤ ls.length ∧ ls.length ≤ 26 ∧ ∀ c ∈ ls, 97 ≤ c ∧ c ≤ 122 := by
      simp only [List.mem_cons, List.not_mem_nil, or_false] at mv
      rcases mv with e | e | e | e
      · exact ⟨("abcdefghijklmnopqrstuvwxyz" : Str).cps.toList, by rw [e, SX.S_tl], by decide +kernel, by decide +kernel, by decide +kernel⟩
      · exact ⟨("ab" : Str).cps.toList, by rw [e, SX.S_tl], by decide +kernel, by decide +kernel, by decide +kernel⟩
      · exact ⟨("az" : Str).cps.toList, by rw [e, SX.S_tl], by decide +kernel, by decide +kernel, by decide +kernel⟩
      · exact ⟨("mno" : Str).cps.toList, by rw [e, SX.S_tl], by decide +kernel, by decide +kernel, by decide +kernel⟩
    obtain ⟨ls, rfl, l1, l26, lok⟩ := hs
    refine ⟨p3, _, r'', _, rfl, rfl, SqL.of hp3, hv, ?_⟩
    have S13 : SmX d H H3 := (S12.new np3).trans S3
    -- the join
    refine ⟨⟨_, rfl⟩, _, rfl, sz, rfl, by omega, by omega, fun D nD => ?_⟩
    have nDd : D ≠ d := D3.nd nD
    have nDc : D ≠ c := D3.nc nD
    refine lc_range (lo := 0) (n := sz.toNat) (fun i H' => ∃ cs : List Nat, cs.length = i ∧ (∀ c ∈ cs, 97 ≤ c ∧ c ≤ 122) ∧ H' D = some (.lst ((cs.map fun c => S [c]).map V.str)) ∧ SmX d H H' ∧ DeckAt H' d c (n + 3 + i)) ⟨[], rfl, by simp, upd_same, S13.new nD, D3.new nD⟩ (fun i H' hi hP => ?_) (fun H' hP => ?_)
    · obtain ⟨cs, hl, hc, hD', SM, DD⟩ := hP
      refine ⟨rfl, _, rfl, _, rfl, _, rfl, .str (S ls), ls.length, rfl, ⟨by rw [SX.S_len]; exact sz_le (by omega), (SX.S_len _).symm⟩, d, c, _, _, rfl, DD, by omega, by omega, by omega, fun H4 r4 r40 r41 S4 D4 => ?_⟩
      obtain ⟨v, hv, mv⟩ := atI_in (xs := ls) r40 r41
      refine ⟨S ls, r4, v, rfl, rfl, by rw [SX.S_len]; exact sz_le (by omega), by simpa using hv, ?_⟩
      refine ⟨_, S4 D _ nDd hD', by rw [List.length_map, List.length_map]; exact sz_lt (by omega), cs ++ [v], by simp [hl], fun c hc' => ?_, ?_, (SM.trans S4).put ?_, ?_⟩
      · rcases List.mem_append.mp hc' with z | z
        · exact hc c z
        · rw [List.mem_singleton.mp z]
          exact lok v mv
      · rw [upd_same, List.map_append, List.map_append]
        rfl
      · exact SmX.free S13 nD nDd
      · exact D4.put nDd nDc
    · obtain ⟨cs, hl, hc, hD', SM, DD⟩ := hP
      refine ⟨_, D, cs.map (fun c => S [c]), rfl, rfl, .inl (SqL.of hD'), ?_, ?_⟩
      · rw [one_sum']
        have : ((("" : Str)).length) = 0 := rfl
        rw [this, List.length_map]
        omega
      · have e : Txt.join ("" : Str) (cs.map fun c => S [c]) = S cs := by
          have := SX.join_S [] (cs.map fun c => [c])
          rw [List.map_map] at this
          rw [join_none, flat_one] at this
          exact this
        rw [e]
        exact q H' cs ⟨by omega, by omega, hc⟩ SM (DD.mono (by omega))
end
end Far

namespace Far
open PySem PySem.Spec PyProof.Rows L2
open C8 (pss_cut tCut)
open SX (S)

/-! ### lists without an item twice -/
theorem nodup_sub_len {α : Type} [DecidableEq α] : ∀ (l m : List α), l.Nodup → (∀ x ∈ l, x ∈ m) → l.length ≤ m.length
  | [], _, _, _ => Nat.zero_le _
  | a :: r, m, h, hs => by
    obtain ⟨h1, h2⟩ := List.nodup_cons.mp h
    have ha : a ∈ m := hs a (List.mem_cons.mpr (.inl rfl))
    have ih := nodup_sub_len r (m.erase a) h2 fun x hx => by
      have ne : x ≠ a := fun e => h1 (e ▸ hx)
      exact (List.mem_erase_of_ne ne).mpr (hs x (List.mem_cons.mpr (.inr hx)))
    have hl := List.length_erase_of_mem ha
    have hp : 0 < m.length := List.length_pos_of_mem ha
    rw [List.length_cons]
    omega
theorem nd_snoc' {α : Type} {l : List α} {x : α} (h : l.Nodup) (hx : x ∉ l) : (l ++ [x]).Nodup := by
  rw [List.nodup_append]
  exact ⟨h, by simp, fun a ha b hb e => hx (by rw [← List.mem_singleton.mp hb, ← e]; exact ha)⟩

/-! ### texts as data -/
theorem strOk_S {l : List Nat} (h : NameOk l) : PyData.strOk (S l) = true := by
  show (l.toArray.all (· < 0x110000)) = true
  rw [← Array.all_toList, List.all_eq_true]
  intro c hc
  have := h.2.2 c hc
  exact decide_eq_true (by omega)
theorem inV_strs (l : List Nat) (ls : List (List Nat)) : inV (.str (S l)) ((ls.map S).map V.str) = decide (l ∈ ls) := by
  induction ls with
  | nil => rfl
  | cons a r ih =>
    show (S a == S l || inV (.str (S l)) ((r.map S).map V.str)) = _
    rw [ih, SX.S_beq_eq]
    by_cases e : a = l
    · subst e
      simp
    · have : l ≠ a := fun z => e z.symm
      simp [e, this]
theorem flat_strs (ls : List (List Nat)) : ((ls.map S).map V.str).all flatV = true := by
  induction ls with
  | nil => rfl
  | cons a r ih => exact ih
theorem strs_at {ls : List (List Nat)} {v : V} (h : v ∈ (ls.map S).map V.str) : ∃ l ∈ ls, v = .str (S l) := by
  obtain ⟨z, hz, rfl⟩ := List.mem_map.mp h
  obtain ⟨l, hl, rfl⟩ := List.mem_map.mp hz
  exact ⟨l, hl, rfl⟩
theorem dp_strs (K : PySem.W.Frag) (H : Hp) : ∀ ls : List (List Nat), DpAll K H ((ls.map S).map V.str) (ls.map fun l => PyData.str (S l))
  | [] => .nil
  | l :: r => .cons (.str _) (dp_strs K H r)
theorem lay_strs : ∀ {ls : List (List Nat)}, (∀ l ∈ ls, NameOk l) → PyData.canLayAll0 (ls.map fun l => PyData.str (S l)) = true
  | [], _ => rfl
  | l :: r, h => by
    show (PyData.strOk (S l) && PyData.canLayAll0 (r.map fun l => PyData.str (S l))) = true
    rw [strOk_S (h l (List.mem_cons.mpr (.inl rfl))), lay_strs fun x hx => h x (List.mem_cons.mpr (.inr hx))]
    rfl
theorem dep_strs : ∀ ls : List (List Nat), PyData.depthAll (ls.map fun l => PyData.str (S l)) = 0
  | [] => rfl
  | l :: r => by
    show max 0 (PyData.depthAll (r.map fun l => PyData.str (S l))) = 0
    rw [dep_strs r]
    rfl
theorem shaped_strs {ls : List (List Nat)} (h : ∀ l ∈ ls, NameOk l) : SeqAt.shaped (.list (ls.map fun l => PyData.str (S l))) = true := by
  show (PyData.canLayAll0 (ls.map fun l => PyData.str (S l)) && decide (PyData.depthAll (ls.map fun l => PyData.str (S l)) + 1 ≤ 64)) = true
  rw [lay_strs h, dep_strs]
  rfl

/-! ### names made otherwise -/
theorem a8_is : ("aaaaaaaa" : Str) = S (List.replicate 8 97) := by decide +kernel
theorem ten_at : ∀ k : _root_.Fin 10, atI ("abcdefghij" : Str).cps.toList ((k.val : Nat) : Int) = some (97 + k.val) := by decide +kernel
theorem abc_ok : ∀ c ∈ ("abcdefghijklmnopqrstuvwxyz" : Str).cps.toList, 97 ≤ c ∧ c ≤ 122 := by decide +kernel
def cand (q : List Nat) (j : Nat) : List Nat := q ++ [97 + j / 10] ++ [97 + j % 10]
theorem cand_inj {q : List Nat} {i j : Nat} (h : cand q i = cand q j) : i = j := by
  unfold cand at h
  rw [List.append_assoc, List.append_assoc] at h
  have := List.append_cancel_left h
  simp at this
  omega
def six (l : List Nat) : List Nat := (l ++ List.replicate 8 97).take 6
theorem six_len (l : List Nat) : (six l).length = 6 := by
  unfold six
  rw [List.length_take, List.length_append, List.length_replicate]
  omega
theorem six_ok {l : List Nat} (h : NameOk l) : ∀ c ∈ six l, 97 ≤ c ∧ c ≤ 122 := fun c hc => by
  have := List.mem_of_mem_take hc
  rcases List.mem_append.mp this with z | z
  · exact h.2.2 c z
  · rw [List.eq_of_mem_replicate z]
    omega
theorem cand_len {q : List Nat} (hq : q.length = 6) (j : Nat) : (cand q j).length = 8 := by
  unfold cand
  simp [hq]
theorem six_cand {q : List Nat} (hq : q.length = 6) (j : Nat) : six (cand q j) = q := by
  unfold six cand
  rw [List.append_assoc, List.append_assoc, ← hq]
  simp
theorem cand_ok {q : List Nat} (hq : q.length = 6) (ho : ∀ c ∈ q, 97 ≤ c ∧ c ≤ 122) {j : Nat} (hj : j < 100) : NameOk (cand q j) := by
  refine ⟨by rw [cand_len hq]; omega, by rw [cand_len hq]; omega, fun c hc => ?_⟩
  unfold cand at hc
  simp at hc
  rcases hc with z | z | z
  · exact ho c z
  · omega
  · omega
/-- of the names tried so far all but the last are found already -/
structure Tried (ls : List (List Nat)) (t : Nat) (l : List Nat) : Prop where
  ok : NameOk l
  last : t ≠ 0 → l = cand (six l) (t - 1)
  old : ∀ j, j + 1 < t → cand (six l) j ∈ ls
theorem Tried.lt {ls : List (List Nat)} {t : Nat} {l : List Nat} (h : Tried ls t l) (hl : l ∈ ls) : t ≤ ls.length := by
  have sub : ∀ x ∈ (List.range t).map (cand (six l)), x ∈ ls := fun x hx => by
    obtain ⟨j, hj, rfl⟩ := List.mem_map.mp hx
    have hj := List.mem_range.mp hj
    by_cases e : j + 1 < t
    · exact h.old j e
    · have e2 : j = t - 1 := by omega
      rw [e2, ← h.last (by omega)]
      exact hl
  have nd : ((List.range t).map (cand (six l))).Nodup := by
    rw [List.Nodup, List.pairwise_map]
    exact (List.nodup_range (n := t)).imp fun ne e => ne (cand_inj e)
  have := nodup_sub_len _ ls nd sub
  rw [List.length_map, List.length_range] at this
  exact this
theorem Tried.next {ls : List (List Nat)} {t : Nat} {l : List Nat} (h : Tried ls t l) (hl : l ∈ ls) (h30 : ls.length < 30) : Tried ls (t + 1) (cand (six l) t) := by
  have hlt := h.lt hl
  have e6 := six_cand (six_len l) t
  refine ⟨cand_ok (six_len l) (six_ok h.ok) (by omega), fun _ => by rw [e6]; rfl, fun j hj => ?_⟩
  rw [e6]
  by_cases e : j + 1 < t
  · exact h.old j e
  · have e2 : j = t - 1 := by omega
    rw [e2, ← h.last (by omega)]
    exact hl
end Far

namespace Far
open PySem PySem.Spec PyProof.Rows L2
open C8 (pss_cut tCut)
open SX (S)
abbrev s_law_names : Stmt := topS 32
abbrev N_law_names : List Str := ["deck", "many", "found", "name", "at", "sign", "some", "turn", "ten"]
theorem sc_law_names : FnScope N_law_names ["deck", "many"] (defScope s_law_names) := ⟨rfl, rfl, rfl, by decide +kernel, rfl, by decide +kernel, by decide +kernel⟩
section
variable {P : Program} {w : World} {K : PySem.W.Frag} {mg : Str → Option Value} {base : Heap}
def NamesAt (H : Hp) (p : Addr) (ls : List (List Nat)) : Prop := H p = some (.lst ((ls.map S).map V.str))
def spNames : Sp := fun vs H Q _ => ∃ (d c : Addr) (n : Nat) (many : Nat), vs = [.ref d, .int many] ∧ DeckAt H d c n ∧ n < 80000 ∧ many ≤ 30 ∧ ∀ (H' : Hp) (p : Addr) (ls : List (List Nat)), H p = none → p ≠ d → p ≠ c → NamesAt H' p ls → ls.length = many → ls.Nodup → (∀ l ∈ ls, NameOk l) → SmX d H H' → DeckAt H' d c (n + 600) → Q (.ref p) H'
theorem ok_names {f : Addr} {fd : FuncData} (F : Fun K "_law_names" "_law_names" s_law_names f fd) (T : Txt mg) (C_law_next : Cal P w K mg base 2 "_law_next" spNext) (C_law_name : Cal P w K mg base 3 "_law_name" spName) : FnOk P w K mg base CX0 4 f fd ["deck", "many"] spNames := by
  refine F.ok sc_law_names (fun vs H Q E h => ?_) (fun cdv A outer s H vs Q E hr h => ?_)
  · obtain ⟨d, c, n, many, rfl, _⟩ := h
    rfl
  · obtain ⟨d, c, n, many, rfl, hD, hn, hm, q⟩ := h
    refine ⟨_, (pss_cons (ps_set (i := 2) sc_law_names.nd rfl (.inl rfl) (pe_lst pa_nil))
      (pss_cut (ps_while PassesOwn.never (pt_cmpR op_lt (pe_callB call_len_seq (by rfl) T.len bt_len (pa_cons (pv 2) pa_nil)) (pv 1) (nomark _))
        (pss_cons (ps_set (i := 3) sc_law_names.nd rfl (.inl rfl) (pe_c C_law_name hr (by decide) rfl (pa_cons (pv 0) pa_nil)))
        (pss_cut (ps_if (PW.pt (pw_and (pt_cmpR (op_neD (hd_of hr (by decide))) (pv 2) (pe_lst pa_nil) (nomark _)) (pw_and1 (pt_cmpR op_eq (pe_c C_law_next hr (by decide) rfl (pa_cons (pv 0) (pa_cons pe_int pa_nil))) pe_int (nomark _)))))
          (pss_cons (ps_set (i := 3) sc_law_names.nd rfl (.inl rfl) (pe_ix ix_list (pv 2) (pe_c C_law_next hr (by decide) rfl (pa_cons (pv 0) (pa_cons (pe_callB call_len_seq (by rfl) T.len bt_len (pa_cons (pv 2) pa_nil)) pa_nil))) (fun _ _ => rfl)))
          (pss_cons (ps_set (i := 4) sc_law_names.nd rfl (.inl rfl) (pe_c C_law_next hr (by decide) rfl (pa_cons (pv 0) (pa_cons (pe_callB call_len (by rfl) T.len bt_len (pa_cons (pv 3) pa_nil)) pa_nil))))
          (pss_cons (ps_set (i := 5) sc_law_names.nd rfl (.inl rfl) (pe_ix ix_str pe_str (pe_c C_law_next hr (by decide) rfl (pa_cons (pv 0) (pa_cons pe_int pa_nil))) (fun _ _ => rfl)))
          (pss_cons (ps_set (i := 6) sc_law_names.nd rfl (.inl rfl) (pe_lst (pa_cons (pe_op op_add_str (pe_op op_add_str (pe_slice C8.sl_txt (pv 3) po_none (po_some (pv 4))) (pv 5)) (pe_slice C8.sl_txt (pv 3) (po_some (pe_op op_add (pv 4) pe_int)) po_none)) (pa_cons (pe_slice C8.sl_txt (pv 3) po_none (po_some (pe_op op_add (pv 4) pe_int))) (pa_cons (pe_slice C8.sl_txt (pe_op op_add_str (pv 3) (pv 5)) po_none (po_some pe_int)) pa_nil)))))
          (pss_one (ps_set (i := 3) sc_law_names.nd rfl (.inl rfl) (pe_ix ix_list (pv 6) (pe_c C_law_next hr (by decide) rfl (pa_cons (pv 0) (pa_cons pe_int pa_nil))) (fun _ _ => rfl))))))))
          pss_nil)
        (pss_cons (ps_set (i := 7) sc_law_names.nd rfl (.inl rfl) pe_int)
        (pss_cut (ps_while PassesOwn.never (pt_cmpR op_in_seq (pv 3) (pv 2) rfl)
          (pss_cons (ps_set (i := 8) sc_law_names.nd rfl (.inl rfl) (pe_ix ix_str pe_str (pe_op op_fdiv (pv 7) pe_int) (fun _ _ => rfl)))
          (pss_cons (ps_set (i := 3) sc_law_names.nd rfl (.inl rfl) (pe_op op_add_str (pe_op op_add_str (pe_slice C8.sl_txt (pe_op op_add_str (pv 3) pe_str) po_none (po_some pe_int)) (pv 8)) (pe_ix ix_str pe_str (pe_op op_mod (pv 7) pe_int) (fun _ _ => rfl))))
          (pss_one (ps_set (i := 7) sc_law_names.nd rfl (.inl rfl) (pe_op op_add (pv 7) pe_int))))))
        (pss_one (ps_expr (pe_bm PySem.F.plainAttrs_list PySem.F.slot_list_append PySem.F.type_list_append mt_append (pv 2) (pa_cons (pv 3) pa_nil)))))))))
      (pss_one (ps_ret (pv 2))))), ?_⟩
    refine ⟨Nat.zero_le _, fun p np => ?_⟩
    have npd : p ≠ d := hD.nd np
    have npc : p ≠ c := hD.nc np
    -- the loop
    refine ⟨fun σ' H' => ∃ (ls : List (List Nat)) (x3 x4 x5 x6 x7 x8 : Option V), σ' = [some (.ref d), some (.int many), some (.ref p), x3, x4, x5, x6, x7, x8] ∧ NamesAt H' p ls ∧ ls.length = many ∧ ls.Nodup ∧ (∀ l ∈ ls, NameOk l) ∧ SmX d H H' ∧ DeckAt H' d c (n + 600), ?_, fun σ' H' hM => ?_⟩
    · refine ⟨fun m σ' H' => ∃ (ls : List (List Nat)) (x3 x4 x5 x6 x7 x8 : Option V), σ' = [some (.ref d), some (.int many), some (.ref p), x3, x4, x5, x6, x7, x8] ∧ NamesAt H' p ls ∧ ls.length + m = many ∧ ls.Nodup ∧ (∀ l ∈ ls, NameOk l) ∧ SmX d H H' ∧ DeckAt H' d c (n + 16 * ls.length), ⟨many, [], none, none, none, none, none, none, rfl, upd_same, by simp, List.nodup_nil, by simp, (SmX.refl H).new np, hD.new np⟩, ?_⟩
      rintro m σ1 H1 ⟨ls, x3, x4, x5, x6, x7, x8, rfl, hN, hl, nd, ok, SM, DD⟩
      refine ⟨_, rfl, p, _, rfl, .inl (SqL.of hN), _, rfl, _, _, rfl, rfl, _, rfl, ?_⟩
      rw [List.length_map, List.length_map]
      refine ite2 (fun e => ?_) (fun e => ?_)
      · have lt : ls.length < many := by simpa using of_decide_eq_true e
        refine ⟨fun σ' H' => ∃ (ls' : List (List Nat)) (x3 x4 x5 x6 x7 x8 : Option V), σ' = [some (.ref d), some (.int many), some (.ref p), x3, x4, x5, x6, x7, x8] ∧ NamesAt H' p ls' ∧ ls'.length = ls.length + 1 ∧ ls'.Nodup ∧ (∀ l ∈ ls', NameOk l) ∧ SmX d H H' ∧ DeckAt H' d c (n + 16 * ls'.length), fun σ' H' hM => ?_, ?_⟩
        · obtain ⟨ls', y3, y4, y5, y6, y7, y8, e1, e2, e3, e4, e5, e6, e7⟩ := hM
          exact ⟨m - 1, by omega, ls', y3, y4, y5, y6, y7, y8, e1, e2, by omega, e4, e5, e6, e7⟩
        -- name = _law_name(deck)
        refine ⟨_, rfl, d, c, n + 16 * ls.length, rfl, DD, by omega, fun H2 l hlok S2 D2 => ?_⟩
        have hN2 : NamesAt H2 p ls := S2 p _ npd hN
        have SM2 : SmX d H H2 := SM.trans S2
        -- the if
        refine ⟨fun σ' H' => ∃ (l : List Nat) (x4 x5 x6 : Option V), σ' = [some (.ref d), some (.int many), some (.ref p), some (.str (S l)), x4, x5, x6, x7, x8] ∧ NameOk l ∧ NamesAt H' p ls ∧ SmX d H H' ∧ DeckAt H' d c (n + 16 * ls.length + 16), ?_, fun σ' H' hM => ?_⟩
        · refine ⟨_, rfl, Nat.zero_le _, fun p2 np2 => ?_⟩
          have hN2' : NamesAt (upd H2 p2 (.lst [])) p ls := by
            unfold NamesAt
            rw [upd_ne (ne_of_none hN2 np2)]
            exact hN2
          have D2' := D2.new (o := .lst []) np2
          have SM2' : SmX d H (upd H2 p2 (.lst [])) := SM2.new np2
          refine ⟨_, _, .lst (SqL.of hN2') (dp_strs _ _ ls), .lst (SqL.of upd_same) .nil, shaped_strs ok, rfl, _, rfl, ?_⟩
          refine ite2 (fun e1 => ?_) (fun e1 => ?_)
          · have pos : 0 < ls.length := by
              cases ls with
              | nil => exact absurd e1 (by decide)
              | cons a r => exact Nat.succ_pos _
            refine ⟨_, rfl, d, c, _, 3, rfl, D2', by omega, by decide, by decide, fun H3 r r0 r1 S3 D3 => ?_⟩
            have hN3 : NamesAt H3 p ls := S3 p _ npd hN2'
            have SM3 : SmX d H H3 := SM2'.trans S3
            refine ⟨rfl, _, rfl, ite2 (fun e2 => ?_) (fun e2 => ?_)⟩
            · -- name = found[..]
              refine ⟨_, rfl, _, rfl, _, rfl, p, _, rfl, .inl (SqL.of hN3), d, c, _, _, rfl, D3, by omega, ?_, ?_, fun H4 r4 r40 r41 S4 D4 => ?_⟩
              · rw [List.length_map, List.length_map]
                omega
              · rw [List.length_map, List.length_map]
                omega
              have hN4 : NamesAt H4 p ls := S4 p _ npd hN3
              obtain ⟨v, hv, mv⟩ := atI_in r40 r41
              obtain ⟨l2, hl2, rfl⟩ := strs_at mv
              have ok2 := ok l2 hl2
              refine ⟨p, _, r4, _, rfl, rfl, SqL.of hN4, hv, ?_⟩
              -- at
              refine ⟨_, rfl, _, rfl, .str (S l2), l2.length, rfl, ⟨by rw [SX.S_len]; exact sz_le (by have := ok2.2.1; omega), (SX.S_len _).symm⟩, d, c, _, _, rfl, D4, by omega, by have := ok2.1; omega, by have := ok2.2.1; omega, fun H5 r5 r50 r51 S5 D5 => ?_⟩
              -- sign
              refine ⟨_, rfl, d, c, _, 26, rfl, D5, by omega, by decide, by decide, fun H6 r6 r60 r61 S6 D6 => ?_⟩
              obtain ⟨sg, hsg, msg⟩ := atI_in (xs := ("abcdefghijklmnopqrstuvwxyz" : Str).cps.toList) r60 (by
                have : ("abcdefghijklmnopqrstuvwxyz" : Str).cps.toList.length = 26 := by decide +kernel
                omega)
              have oks := abc_ok sg msg
              refine ⟨("abcdefghijklmnopqrstuvwxyz" : Str), r6, sg, rfl, rfl, by decide, hsg, ?_⟩
              have hN6 : NamesAt H6 p ls := S6 p _ npd (S5 p _ npd hN4)
              have SM6 : SmX d H H6 := ((SM3.trans S4).trans S5).trans S6
              have h8 := ok2.2.1
              have h1 := ok2.1
              -- some
              refine ⟨_, rfl, _, rfl, r5, rfl, S l2, rfl, by rw [SX.S_len]; exact sz_le (by omega), _, rfl, S (l2.take r5.toNat), S [sg], congrArg V.str (SX.slice_to r50), rfl, by rw [SX.S_len, SX.S_len, List.length_take, List.length_singleton]; exact sz_le (by omega),
                _, rfl, _, rfl, r5, 1, rfl, rfl, r5 + 1, rfl, S l2, rfl, by rw [SX.S_len]; exact sz_le (by omega), S (l2.take r5.toNat ++ [sg]), S (l2.drop (r5 + 1).toNat), congrArg V.str (SX.S_cat _ _), congrArg V.str (SX.slice_from (by omega)), by rw [SX.S_len, SX.S_len, List.length_append, List.length_take, List.length_drop, List.length_singleton]; exact sz_le (by omega),
                _, rfl, _, rfl, r5, 1, rfl, rfl, r5 + 1, rfl, S l2, rfl, by rw [SX.S_len]; exact sz_le (by omega), 
                _, rfl, _, rfl, S l2, S [sg], rfl, rfl, by rw [SX.S_len, SX.S_len, List.length_singleton]; exact sz_le (by omega), 8, rfl, S (l2 ++ [sg]), congrArg V.str (SX.S_cat _ _), by rw [SX.S_len, List.length_append, List.length_singleton]; exact sz_le (by omega), by show 3 ≤ sizeLine; decide, fun p7 np7 => ?_⟩
              have np7d := D6.nd np7
              have D6' := D6.new (o := .lst [V.str (S (l2.take r5.toNat ++ [sg]) ++ S (l2.drop (r5 + 1).toNat)), .str (Txt.slice (S l2) none (some (r5 + 1))), .str (Txt.slice (S (l2 ++ [sg])) none (some 8))]) np7
              refine ⟨_, rfl, _, rfl, d, c, _, 3, rfl, D6', by omega, by decide, by decide, fun H7 r7 r70 r71 S7 D7 => ?_⟩
              have h7 := S7 p7 _ np7d upd_same
              have SM7 : SmX d H H7 := (SM6.new np7).trans S7
              have hN7 : NamesAt H7 p ls := S7 p _ npd (by rw [upd_ne (ne_of_none hN6 np7)]; exact hN6)
              obtain ⟨v, hv, mv⟩ := atI_in (xs := [V.str (S (l2.take r5.toNat ++ [sg]) ++ S (l2.drop (r5 + 1).toNat)), .str (Txt.slice (S l2) none (some (r5 + 1))), .str (Txt.slice (S (l2 ++ [sg])) none (some 8))]) r70 (by simpa using r71)
              have hs : ∃ l3 : List Nat, v = .str (S l3) ∧ NameOk l3 := by
                simp only [List.mem_cons, List.not_mem_nil, or_false] at mv
                rcases mv with e | e | e
                · refine ⟨l2.take r5.toNat ++ [sg] ++ l2.drop (r5 + 1).toNat, by rw [e, SX.S_cat], ?_, ?_, fun x hx => ?_⟩
                  · simp
                    omega
                  · simp
                    omega
                  · rcases List.mem_append.mp hx with z | z
                    · rcases List.mem_append.mp z with z | z
                      · exact ok2.2.2 x (List.mem_of_mem_take z)
                      · rw [List.mem_singleton.mp z]
                        exact oks
                    · exact ok2.2.2 x (List.mem_of_mem_drop z)
                · refine ⟨l2.take (r5 + 1).toNat, by rw [e, SX.slice_to (by omega)], ?_, ?_, fun x hx => ok2.2.2 x (List.mem_of_mem_take hx)⟩
                  · rw [List.length_take]
                    omega
                  · rw [List.length_take]
                    omega
                · refine ⟨(l2 ++ [sg]).take 8, by rw [e, SX.slice_to (by decide)]; rfl, ?_, ?_, fun x hx => ?_⟩
                  · rw [List.length_take, List.length_append, List.length_singleton]
                    omega
                  · rw [List.length_take]
                    omega
                  · rcases List.mem_append.mp (List.mem_of_mem_take hx) with z | z
                    · exact ok2.2.2 x z
                    · rw [List.mem_singleton.mp z]
                      exact oks
              obtain ⟨l3, rfl, ok3⟩ := hs
              refine ⟨p7, _, r7, _, rfl, rfl, SqL.of h7, hv, ?_⟩
              exact ⟨l3, _, _, _, rfl, ok3, hN7, SM7, D7⟩
            · exact ⟨l, _, _, _, rfl, hlok, hN3, SM3, D3.mono (by omega)⟩
          · exact ⟨l, _, _, _, rfl, hlok, hN2', SM2', D2'.mono (by omega)⟩
        · -- the second loop
          obtain ⟨l, y4, y5, y6, rfl, lok, hN3, SM3, D3⟩ := hM
          refine ⟨fun σ' H'' => ∃ (l : List Nat) (x7 x8 : Option V), σ' = [some (.ref d), some (.int many), some (.ref p), some (.str (S l)), y4, y5, y6, x7, x8] ∧ NameOk l ∧ l ∉ ls ∧ H'' = H', ?_, fun σ' H'' hM => ?_⟩
          · refine ⟨fun m σ' H'' => ∃ (l : List Nat) (t : Nat) (x8 : Option V), σ' = [some (.ref d), some (.int many), some (.ref p), some (.str (S l)), y4, y5, y6, some (.int t), x8] ∧ H'' = H' ∧ Tried ls t l ∧ t + m = 100, ⟨100, l, 0, x8, rfl, rfl, ⟨lok, fun z => absurd rfl z, fun j hj => absurd hj (by omega)⟩, rfl⟩, ?_⟩
            rintro m' σ2 H4 ⟨l, t, x8, rfl, rfl, tr, em⟩
            refine ⟨_, rfl, _, rfl, p, _, rfl, .inl (SqL.of hN3), rfl, flat_strs ls, _, rfl, ?_⟩
            rw [inV_strs]
            refine ite2 (fun e2 => ?_) (fun e2 => ?_)
            · have hin : l ∈ ls := of_decide_eq_true e2
              have tl := tr.lt hin
              have nx := tr.next hin (by omega)
              refine ⟨fun σ' H'' => ∃ (l : List Nat) (t' : Nat) (x8 : Option V), σ' = [some (.ref d), some (.int many), some (.ref p), some (.str (S l)), y4, y5, y6, some (.int t'), x8] ∧ H'' = H4 ∧ Tried ls t' l ∧ t' = t + 1, ?_, ?_⟩
              · rintro σ' H'' ⟨l', t', x8', e1, e2', e3, e4⟩
                exact ⟨m' - 1, by omega, l', t', x8', e1, e2', e3, by omega⟩
              have et : (t : Int) / 10 = (((t / 10 : Nat)) : Int) := by omega
              have em' : (t : Int) % 10 = (((t % 10 : Nat)) : Int) := by omega
              have a1 : atI ("abcdefghij" : Str).cps.toList ((t : Int) / 10) = some (97 + t / 10) := by
                rw [et]
                exact ten_at ⟨t / 10, by omega⟩
              have a2 : atI ("abcdefghij" : Str).cps.toList ((t : Int) % 10) = some (97 + t % 10) := by
                rw [em']
                exact ten_at ⟨t % 10, by omega⟩
              have l8 := tr.ok.2.1
              have s6 := six_len l
              refine ⟨_, rfl, _, _, rfl, rfl, ⟨by decide, by decide⟩, ("abcdefghij" : Str), (t : Int) / 10, _, rfl, rfl, by decide, a1, ?_⟩
              refine ⟨_, rfl, S l, S (List.replicate 8 97), rfl, congrArg V.str a8_is, by rw [SX.S_len, SX.S_len, List.length_replicate]; exact sz_le (by omega), 6, rfl, S (l ++ List.replicate 8 97), congrArg V.str (SX.S_cat _ _), by rw [SX.S_len, List.length_append, List.length_replicate]; exact sz_le (by omega),
                _, rfl, S (six l), S [97 + t / 10], congrArg V.str (SX.slice_to (by decide)), rfl, by rw [SX.S_len, SX.S_len, s6]; exact sz_le (by simp), _, rfl, _, _, rfl, rfl, (by show (0 : Int) < _; decide), ("abcdefghij" : Str), (t : Int) % 10, _, rfl, rfl, by decide, a2,
                S (six l ++ [97 + t / 10]), S [97 + t % 10], congrArg V.str (SX.S_cat _ _), rfl, by rw [SX.S_len, SX.S_len, List.length_append, s6]; exact sz_le (by simp), ?_⟩
              refine ⟨_, rfl, _, _, rfl, rfl, ?_⟩
              refine ⟨cand (six l) t, t + 1, some (.str (S [97 + t / 10])), ?_, rfl, nx, rfl⟩
              show [some (V.ref d), some (V.int many), some (V.ref p), some (V.str (S (six l ++ [97 + t / 10]) ++ S [97 + t % 10])), y4, y5, y6, some (V.int ((t : Int) + 1)), some (V.str (S [97 + t / 10]))] = _
              rw [SX.S_cat]
              rfl
            · exact ⟨l, _, _, rfl, tr.ok, fun z => e2 (decide_eq_true z), rfl⟩
          · obtain ⟨l, x7, x8, rfl, lok, nin, rfl⟩ := hM
            refine ⟨_, rfl, .inl ⟨rfl, _, SqL.of hN3⟩, _, rfl, p, _, _, rfl, rfl, hN3, ?_, ?_⟩
            · rw [List.length_map, List.length_map]
              exact sz_lt (by omega)
            refine ⟨ls ++ [l], _, _, _, _, _, _, rfl, ?_, by simp, nd_snoc' nd nin, fun x hx => ?_, SM3.put np, ?_⟩
            · unfold NamesAt
              rw [upd_same, List.map_append, List.map_append]
              rfl
            · rcases List.mem_append.mp hx with z | z
              · exact ok x z
              · rw [List.mem_singleton.mp z]
                exact lok
            · exact (D3.put npd npc).mono (by rw [List.length_append, List.length_singleton]; omega)
      · have ge : many ≤ ls.length := by
          have := of_decide_eq_false (by simpa using e : decide ((ls.length : Int) < many) = false)
          omega
        exact ⟨ls, _, _, _, _, _, _, rfl, hN, by omega, nd, ok, SM, DD.mono (by omega)⟩
    · obtain ⟨ls, x3, x4, x5, x6, x7, x8, rfl, hN, hl, nd, ok, SM, DD⟩ := hM
      exact ⟨_, rfl, q H' p ls np npd npc hN hl nd ok SM DD⟩
end
end Far

namespace Far
open PySem PySem.Spec PyProof.Rows L2
open SX (S)
abbrev Nm := List Nat
abbrev Tie := Nm × Nm × Int
/-- places in an order in which each has one tie to those ahead; the ties in that order -/
inductive Grown : List Nm → List Tie → Prop
  | one (a : Nm) : Grown [a] []
  | leaf {os : List Nm} {es : List Tie} {a b : Nm} {k : Int} {e : Tie} : Grown os es → a ∈ os → b ∉ os → e = (a, b, k) ∨ e = (b, a, k) → 1 ≤ k → k ≤ 1000000 → Grown (os ++ [b]) (es ++ [e])
def IsTree (pl : List Nm) (ts : List Tie) : Prop := ∃ os es, Grown os es ∧ pl.Perm os ∧ ts.Perm es
theorem Grown.nodup {os : List Nm} {es : List Tie} (h : Grown os es) : os.Nodup := by
  induction h with
  | one a => simp
  | leaf _ _ hb _ _ _ ih => exact nd_snoc' ih hb
theorem Grown.len {os : List Nm} {es : List Tie} (h : Grown os es) : os.length = es.length + 1 := by
  induction h with
  | one a => rfl
  | leaf _ _ _ _ _ _ ih => rw [List.length_append, List.length_append, ih]; rfl
theorem Grown.ties {os : List Nm} {es : List Tie} (h : Grown os es) : ∀ e ∈ es, e.1 ∈ os ∧ e.2.1 ∈ os ∧ 1 ≤ e.2.2 ∧ e.2.2 ≤ 1000000 := by
  induction h with
  | one a => simp
  | leaf h1 ha hb he k1 k2 ih =>
    intro e hm
    rcases List.mem_append.mp hm with z | z
    · obtain ⟨a1, a2, a3⟩ := ih e z
      exact ⟨List.mem_append_left _ a1, List.mem_append_left _ a2, a3⟩
    · rw [List.mem_singleton.mp z]
      rcases he with e | e <;> rw [e] <;> simp [ha, k1, k2]
theorem IsTree.nodup {pl : List Nm} {ts : List Tie} (h : IsTree pl ts) : pl.Nodup := by
  obtain ⟨os, es, g, p, _⟩ := h
  exact p.nodup_iff.mpr g.nodup
theorem IsTree.len {pl : List Nm} {ts : List Tie} (h : IsTree pl ts) : pl.length = ts.length + 1 := by
  obtain ⟨os, es, g, p, q⟩ := h
  rw [p.length_eq, q.length_eq]
  exact g.len
theorem IsTree.ties {pl : List Nm} {ts : List Tie} (h : IsTree pl ts) : ∀ e ∈ ts, e.1 ∈ pl ∧ e.2.1 ∈ pl ∧ 1 ≤ e.2.2 ∧ e.2.2 ≤ 1000000 := by
  obtain ⟨os, es, g, p, q⟩ := h
  intro e he
  obtain ⟨a, b, c⟩ := g.ties e (q.mem_iff.mp he)
  exact ⟨p.mem_iff.mpr a, p.mem_iff.mpr b, c⟩

/-! ### as data -/
def tieD (t : Tie) : PyData := .tuple [.str (S t.1), .str (S t.2.1), .int t.2.2]
def strD (l : Nm) : PyData := .str (S l)
def treeD (pl : List Nm) (ts : List Tie) : PyData := .tuple [.tuple (pl.map strD), .tuple (ts.map tieD)]
/-- tuples stand as they stood -/
structure TK (H H' : Hp) : Prop where
  tup : ∀ b xs, H b = some (.tup xs) → H' b = some (.tup xs)
  frz : ∀ b o xs, H b = some (.frz o (.tup xs)) → H' b = some (.frz o (.tup xs))
theorem TK.refl (H : Hp) : TK H H := ⟨fun _ _ h => h, fun _ _ _ h => h⟩
theorem TK.trans {H H1 H2 : Hp} (a : TK H H1) (b : TK H1 H2) : TK H H2 := ⟨fun x o h => b.tup x o (a.tup x o h), fun x o u h => b.frz x o u (a.frz x o u h)⟩
theorem TK.of {H H' : Hp} (a : Same H H') : TK H H' := ⟨fun x _ h => a x _ h, fun x _ _ h => a x _ h⟩
theorem TK.new {H : Hp} {p : Addr} {o : HO} (n : H p = none) : TK H (upd H p o) :=
  ⟨fun b xs h => by rw [upd_ne (ne_of_none h n)]; exact h, fun b u xs h => by rw [upd_ne (ne_of_none h n)]; exact h⟩
theorem TK.mut {H : Hp} {p : Addr} {o : HO} {xs : List V} (n : H p = some (.lst xs)) : TK H (upd H p o) :=
  ⟨fun b ys h => by rw [upd_ne (ne_of h n (by intro z; cases z))]; exact h, fun b u ys h => by rw [upd_ne (ne_of h n (by intro z; cases z))]; exact h⟩
theorem SmX.tk {d : Addr} {H H' : Hp} {xs : List V} (s : SmX d H H') (n : H d = some (.lst xs)) : TK H H' :=
  ⟨fun b ys h => s b _ (ne_of h n (by intro z; cases z)) h, fun b u ys h => s b _ (ne_of h n (by intro z; cases z)) h⟩
theorem DeckAt.lst {H : Hp} {d c : Addr} {n : Nat} (h : DeckAt H d c n) : ∃ xs, H d = some (.lst xs) := by
  obtain ⟨_, _, _, _, _, h1, _⟩ := h
  exact ⟨_, h1⟩
theorem DeckAt.tk {H H' : Hp} {d c : Addr} {n : Nat} (h : DeckAt H d c n) (s : SmX d H H') : TK H H' := by
  obtain ⟨xs, e⟩ := h.lst
  exact s.tk e
mutual
/-- a value that never changes: none, truths, numbers, texts, tuples of such -/
inductive Dt (H : Hp) : V → PyData → Prop
  | non : Dt H .non .none
  | bl (b : Bool) : Dt H (.bl b) (.bool b)
  | int (i : Int) : Dt H (.int i) (.int i)
  | str (x : Str) : Dt H (.str x) (.str x)
  | tup {a : Addr} {xs : List V} {ds : List PyData} : H a = some (.tup xs) → DtAll H xs ds → Dt H (.ref a) (.tuple ds)
  /-- a tuple of texts that is known to have no dict of its own -/
  | tupZ {a : Addr} {pl : List Nm} {ds : List PyData} {o : Obj} : ds = pl.map strD → pl ≠ [] → o.dict = none → H a = some (.frz o (.tup ((pl.map S).map V.str))) → Dt H (.ref a) (.tuple ds)
inductive DtAll (H : Hp) : List V → List PyData → Prop
  | nil : DtAll H [] []
  | cons {v : V} {vs : List V} {d : PyData} {ds : List PyData} : Dt H v d → DtAll H vs ds → DtAll H (v :: vs) (d :: ds)
end
mutual
theorem Dt.keep {H H' : Hp} (t : TK H H') : ∀ {v : V} {d : PyData}, Dt H v d → Dt H' v d
  | _, _, .non => .non
  | _, _, .bl b => .bl b
  | _, _, .int i => .int i
  | _, _, .str x => .str x
  | _, _, .tup a b => .tup (t.tup _ _ a) (DtAll.keep t b)
  | _, _, .tupZ e n d a => .tupZ e n d (t.frz _ _ _ a)
theorem DtAll.keep {H H' : Hp} (t : TK H H') : ∀ {vs : List V} {ds : List PyData}, DtAll H vs ds → DtAll H' vs ds
  | _, _, .nil => .nil
  | _, _, .cons a b => .cons (Dt.keep t a) (DtAll.keep t b)
end
theorem dpa_strs {K : PySem.W.Frag} (H : Hp) : ∀ ls : List Nm, DpAll K H ((ls.map S).map V.str) (ls.map strD)
  | [] => .nil
  | _ :: r => .cons (.str _) (dpa_strs H r)
mutual
theorem Dt.dp {K : PySem.W.Frag} {H : Hp} : ∀ {v : V} {d : PyData}, Dt H v d → Dp K H v d
  | _, _, .non => .non
  | _, _, .bl b => .bl b
  | _, _, .int i => .int i
  | _, _, .str x => .str x
  | _, _, .tup a b => .tup (.inl (.inl a)) (DtAll.dp b)
  | _, _, .tupZ (pl := pl) (o := o) e _ _ a => e ▸ .tup (.inl (.inr ⟨o, a⟩)) (dpa_strs H pl)
theorem DtAll.dp {K : PySem.W.Frag} {H : Hp} : ∀ {vs : List V} {ds : List PyData}, DtAll H vs ds → DpAll K H vs ds
  | _, _, .nil => .nil
  | _, _, .cons a b => .cons (Dt.dp a) (DtAll.dp b)
end
theorem DtAll.len {H : Hp} : ∀ {vs : List V} {ds : List PyData}, DtAll H vs ds → vs.length = ds.length
  | _, _, .nil => rfl
  | _, _, .cons _ t => congrArg (· + 1) (DtAll.len t)
theorem DtAll.app {H : Hp} : ∀ {vs ws : List V} {ds es : List PyData}, DtAll H vs ds → DtAll H ws es → DtAll H (vs ++ ws) (ds ++ es)
  | _, _, _, _, .nil, h => h
  | _, _, _, _, .cons a t, h => .cons a (DtAll.app t h)
theorem DtAll.get {H : Hp} : ∀ {vs : List V} {ds : List PyData} {i : Nat} {v : V}, DtAll H vs ds → vs[i]? = some v → ∃ d, ds[i]? = some d ∧ Dt H v d
  | _, _, _, _, .nil, e => by simp at e
  | _, _, 0, _, .cons a _, e => by
    simp at e
    subst e
    exact ⟨_, rfl, a⟩
  | _, _, i + 1, _, .cons _ t, e => by
    obtain ⟨d, h1, h2⟩ := DtAll.get (i := i) t (by simpa using e)
    exact ⟨d, by simpa using h1, h2⟩
theorem DtAll.del {H : Hp} : ∀ {vs : List V} {ds : List PyData} (i : Nat), DtAll H vs ds → DtAll H (vs.eraseIdx i) (ds.eraseIdx i)
  | _, _, _, .nil => .nil
  | _, _, 0, .cons _ t => t
  | _, _, i + 1, .cons a t => .cons a (DtAll.del i t)
theorem DtAll.strs {H : Hp} : ∀ {ls : List Nm} {vs : List V}, DtAll H vs (ls.map strD) → vs = (ls.map S).map V.str
  | [], _, .nil => rfl
  | l :: r, _, .cons (.str _) t => by
    rw [DtAll.strs (ls := r) t]
    rfl
theorem dt_strs (H : Hp) : ∀ ls : List Nm, DtAll H ((ls.map S).map V.str) (ls.map strD)
  | [] => .nil
  | _ :: r => .cons (.str _) (dt_strs H r)
theorem perm_erase {α : Type} : ∀ {l : List α} {k : Nat} {x : α}, l[k]? = some x → (x :: l.eraseIdx k).Perm l
  | [], _, _, e => by simp at e
  | a :: r, 0, x, e => by
    simp at e
    subst e
    exact .refl _
  | a :: r, k + 1, x, e => by
    have ih := perm_erase (l := r) (k := k) (x := x) (by simpa using e)
    show (x :: a :: r.eraseIdx k).Perm (a :: r)
    exact (List.Perm.swap a x _).trans (ih.cons a)
theorem perm_pick {α : Type} {l1 l2 m : List α} {x : α} {k : Nat} (h : (l1 ++ l2).Perm m) (e : l2[k]? = some x) : ((l1 ++ [x]) ++ l2.eraseIdx k).Perm m := by
  rw [List.append_assoc]
  exact ((List.Perm.refl l1).append (perm_erase e)).trans h
theorem map_erase {α β : Type} (f : α → β) : ∀ (l : List α) (k : Nat), (l.map f).eraseIdx k = (l.eraseIdx k).map f
  | [], _ => rfl
  | _ :: _, 0 => rfl
  | a :: r, k + 1 => congrArg (f a :: ·) (map_erase f r k)
/-- a tuple of texts: of this heap, or one known through and through -/
def TupAt (H : Hp) (a : Addr) (xs : List V) : Prop := H a = some (.tup xs) ∨ ∃ o : Obj, o.dict = none ∧ H a = some (.frz o (.tup xs))
theorem TupAt.sq {K : PySem.W.Frag} {H : Hp} {a : Addr} {xs : List V} (h : TupAt H a xs) : SqT K H a xs := h.elim (fun h => .inl (.inl h)) fun ⟨o, _, h⟩ => .inl (.inr ⟨o, h⟩)
theorem TupAt.ne {H : Hp} {a p : Addr} {xs : List V} (h : TupAt H a xs) (n : H p = none) : a ≠ p := h.elim (fun h => ne_of_none h n) fun ⟨_, _, h⟩ => ne_of_none h n
theorem TupAt.same {H H' : Hp} {a : Addr} {xs : List V} (h : TupAt H a xs) (s : Same H H') : TupAt H' a xs := h.elim (fun h => .inl (s _ _ h)) fun ⟨o, d, h⟩ => .inr ⟨o, d, s _ _ h⟩
theorem TupAt.upd {H : Hp} {a p : Addr} {xs : List V} {o : HO} (h : TupAt H a xs) (n : H p = none) : TupAt (L2.upd H p o) a xs := h.elim (fun q => .inl (by rw [upd_ne (ne_of_none q n)]; exact q)) fun ⟨u, d, q⟩ => .inr ⟨u, d, by rw [upd_ne (ne_of_none q n)]; exact q⟩
theorem TupAt.updN {H : Hp} {a p : Addr} {xs : List V} {o : HO} (h : TupAt H a xs) (n : a ≠ p) : TupAt (L2.upd H p o) a xs := h.elim (fun q => .inl (by rw [upd_ne n]; exact q)) fun ⟨u, d, q⟩ => .inr ⟨u, d, by rw [upd_ne n]; exact q⟩
end Far

namespace Far
open PySem PySem.Spec PyProof.Rows L2
section
variable {X : Cx} {a o e : Expr} {ta to te : TE}
/-- tuple(xs) of a list, the new tuple known through and through -/
def tTupZ (K : PySem.W.Frag) (ta : TE) : TE := fun σ H Q => ta σ H fun x H1 => ∃ (l : Addr) (xs : List V), x = .ref l ∧ SqL K H1 l xs ∧ ∀ (p : Addr) (o : Obj), H1 p = none → o.dict = none → Q (.ref p) (upd H1 p (.frz o (.tup xs)))
theorem pe_tupleZ {p pos : Pos} (hg : Gl X "tuple") (hm : X.mg "tuple" = none) (ha : PE X a ta) (na : starEach [a] X.env = (false, eval a X.env) :: starEach [] X.env := by rfl) : PE X (.Call (.Name "tuple" p) [a] [] pos) (tTupZ X.K ta) := by
  refine ⟨fun pins s σ H Q I h => ?_⟩
  refine Call_ (ld_blt I hg hm bt_tuple (PyProof.Rows.callWith_type1 (one_arg ha I h (fun v s2 x H2 I2 r q => ?_) na) na))
  obtain ⟨l, xs, rfl, hq, q⟩ := q
  cases r
  obtain ⟨its, rv, pl, hz⟩ := I2.list hq
  refine call_tuple_list pl.isList (fun h' k => ?_) (by rw [List.size_toArray, ← rv.length]; exact hz)
  have I3 : Inv X pins σ H2 { s2 with heap := h' } := I2.kept (t' := s2.toks) k
  have new : (h'.push { cls := .type "tuple", data := .seq its.toArray }).get? h'.objs.size = some ({ cls := .type "tuple", data := .seq its.toArray } : Obj) := Heap.get?_push_size _ rfl
  exact ⟨.ref h'.objs.size, _, I3.laid (t' := s2.toks) (o := .frz { cls := .type "tuple", data := .seq its.toArray } (.tup xs)) (fun b o e => Heap.get?_push_of_some _ e) (Nat.le_refl _)
    (show ObjOk X.prog X.w _ _ _ (.frz _ (.tup xs)) from ⟨new, hz, its, rv, IsTup.new _ _⟩), rfl, q _ _ (I3.hok.fresh (Nat.le_refl _)) rfl⟩
/-- t.index(x), the first place, of a tuple of texts known through and through -/
def tIxZ (to te : TE) : TE := fun σ H Q => to σ H fun x H1 => ∃ (p : Addr) (ys : List Str) (u : Obj), x = .ref p ∧ u.dict = none ∧ H1 p = some (.frz u (.tup (ys.map V.str))) ∧ te σ H1 fun y H2 => H2 p = H1 p ∧ ∃ (z : Str) (j : Nat), y = .str z ∧ ys[j]? = some z ∧ (∀ m, m < j → ys[m]? ≠ some z) ∧ Q (.int (j : Nat)) H2
theorem pe_ixZ {apos cpos : Pos} (ho : PE X o to) (he : PE X e te) (hbase : attributeBase o "index" X.env (eval o X.env) = eval o X.env := by rfl)
    (hfew : ((backTo cpos (starEach [e] X.env)).all (fun x => !x.1) && (backToKw cpos (keywordEach [] X.env)).all (fun x => x.1.isSome)
      && decide ([e].length + ([] : List Keyword).length + (if ([] : List Keyword).isEmpty then 0 else 1) < 30)) = true := by rfl)
    (hline : (apos.endLine == cpos.line) = true := by rfl) (na : starEach [e] X.env = (false, eval e X.env) :: starEach [] X.env := by rfl) :
    PE X (.Call (.Attribute o "index" apos) [e] [] cpos) (tIxZ to te) := by
  refine ⟨fun pins s σ H Q I h => ?_⟩
  refine wpAny_Call_method_late hbase hfew hline rfl (thn (ho.run pins s σ H _ I h) fun v s1 ⟨x, H1, I1, r1, q1⟩ => ?_)
  obtain ⟨p, ys, u, rfl, hd, hp, q1⟩ := q1
  cases r1
  have fz : ObjOk X.prog X.w H1 s1.heap p (.frz u (.tup (ys.map V.str))) := I1.hok p _ hp
  obtain ⟨hu, hz, its, rv, it⟩ := fz
  refine ⟨"tuple", "tuple.index", PySem.F.plainAttrs_tuple, PySem.F.slot_tuple_index, PySem.F.type_tuple_index, it.typeIs, fun c e => by cases e; exact ⟨u, hu, hd⟩, ?_⟩
  have hA : wpAny (model X.prog X.w) X.A (spliced (backTo cpos (starEach [e] X.env))) (fun us s2 => wpAny (model X.prog X.w) X.A (call (.builtin "tuple.index") (.ref p :: us)) (EP X pins σ Q) X.xe s2) X.xe s1 :=
    one_arg he I1 q1 (fun y s2 x H2 I2 r2 q2 => by
      obtain ⟨same, z, j, rfl, hj, hno, q⟩ := q2
      exact mt_tup_index pins s2 σ H2 (.ref p) [.str z] (.ref p) [y] Q I2 rfl (.cons r2 .nil) ⟨p, ys, z, j, rfl, rfl, .inl (.inr ⟨u, same.trans hp⟩), hj, hno, q⟩) na
  rw [na] at hA ⊢
  exact Calls.callWith_builtin (by rfl) (Calls.evalArgs_plain hA)
end
end Far

namespace Far
open PySem PySem.Spec PyProof.Rows L2
open C8 (pss_cut tCut)
open SX (S)
abbrev s_law_tree : Stmt := topS 33
abbrev N_law_tree : List Str := ["deck", "most", "many", "names", "way", "long", "ties", "k", "some", "at", "length", "ends", "left", "places", "mixed"]
theorem sc_law_tree : FnScope N_law_tree ["deck", "most"] (defScope s_law_tree) := ⟨rfl, rfl, rfl, by decide +kernel, rfl, by decide +kernel, by decide +kernel⟩
section
variable {P : Program} {w : World} {K : PySem.W.Frag} {mg : Str → Option Value} {base : Heap}
/-- the tree's places stand as a tuple that is known through and through -/
def PlZ (H : Hp) (v : V) (pl : List Nm) : Prop := ∃ (t a b : Addr) (o : Obj), v = .ref t ∧ H t = some (.tup [.ref a, .ref b]) ∧ o.dict = none ∧ H a = some (.frz o (.tup ((pl.map S).map V.str)))
theorem PlZ.same {H H' : Hp} {v : V} {pl : List Nm} (h : PlZ H v pl) (s : Same H H') : PlZ H' v pl := by
  obtain ⟨t, a, b, o, e, h1, h2, h3⟩ := h
  exact ⟨t, a, b, o, e, s _ _ h1, h2, s _ _ h3⟩
theorem PlZ.keep {H H' : Hp} {v : V} {pl : List Nm} (h : PlZ H v pl) (s : TK H H') : PlZ H' v pl := by
  obtain ⟨t, a, b, o, e, h1, h2, h3⟩ := h
  exact ⟨t, a, b, o, e, s.tup _ _ h1, h2, s.frz _ _ _ h3⟩
def spTree (K : PySem.W.Frag) : Sp := fun vs H Q _ => ∃ (d c : Addr) (n : Nat) (most : Nat), vs = [.ref d, .int most] ∧ DeckAt H d c n ∧ n < 70000 ∧ 1 ≤ most ∧ most ≤ 30 ∧ ∀ (H' : Hp) (t : Addr) (pl : List Nm) (ts : List Tie), IsTree pl ts → (∀ l ∈ pl, NameOk l) → pl.length ≤ max most 4 → Dt H' (.ref t) (treeD pl ts) → PlZ H' (.ref t) pl → SmX d H H' → DeckAt H' d c (n + 800) → Q (.ref t) H'
/-- within the making of a tree: the names at p, the ties so far at t -/
structure Tr (K : PySem.W.Frag) (H H' : Hp) (d c p t : Addr) (n : Nat) (ls : List Nm) (tvs : List V) (ts : List Tie) : Prop where
  nm : NamesAt H' p ls
  tt : H' t = some (.lst tvs)
  al : DtAll H' tvs (ts.map tieD)
  sm : SmX d H H'
  dk : DeckAt H' d c n
theorem Tr.new {H H' : Hp} {d c p t q : Addr} {n : Nat} {ls : List Nm} {tvs : List V} {ts : List Tie} {o : HO} (x : Tr K H H' d c p t n ls tvs ts) (nq : H' q = none) : Tr K H (upd H' q o) d c p t n ls tvs ts :=
  ⟨by unfold NamesAt; rw [upd_ne (ne_of_none x.nm nq)]; exact x.nm, by rw [upd_ne (ne_of_none x.tt nq)]; exact x.tt, DtAll.keep (TK.new nq) x.al, x.sm.new nq, x.dk.new nq⟩
theorem Tr.step {H H' H'' : Hp} {d c p t : Addr} {n m : Nat} {ls : List Nm} {tvs : List V} {ts : List Tie} (x : Tr K H H' d c p t n ls tvs ts) (npd : p ≠ d) (ntd : t ≠ d) (s : SmX d H' H'') (D : DeckAt H'' d c m) : Tr K H H'' d c p t m ls tvs ts :=
  ⟨s p _ npd x.nm, s t _ ntd x.tt, DtAll.keep (x.dk.tk s) x.al, x.sm.trans s, D⟩
/-- another new object changes -/
theorem Tr.put {H H' : Hp} {d c p t q : Addr} {n : Nat} {ls : List Nm} {tvs xs : List V} {ts : List Tie} {o : HO} (x : Tr K H H' d c p t n ls tvs ts) (np : q ≠ p) (nt : q ≠ t) (nd : q ≠ d) (nc : q ≠ c) (n0 : H q = none) (hq : H' q = some (.lst xs)) : Tr K H (upd H' q o) d c p t n ls tvs ts :=
  ⟨by unfold NamesAt; rw [upd_ne np.symm]; exact x.nm, by rw [upd_ne nt.symm]; exact x.tt, DtAll.keep (TK.mut hq) x.al, x.sm.put n0, x.dk.put nd nc⟩
/-- a tie is taken -/
theorem Tr.take {H H' : Hp} {d c p t : Addr} {n k : Nat} {ls : List Nm} {tvs : List V} {ts : List Tie} (x : Tr K H H' d c p t n ls tvs ts) (np : p ≠ t) (nd : t ≠ d) (nc : t ≠ c) (n0 : H t = none) : Tr K H (upd H' t (.lst (tvs.eraseIdx k))) d c p t n ls (tvs.eraseIdx k) (ts.eraseIdx k) :=
  ⟨by unfold NamesAt; rw [upd_ne np]; exact x.nm, upd_same, by rw [← map_erase]; exact DtAll.del k (DtAll.keep (TK.mut x.tt) x.al), x.sm.put n0, x.dk.put nd nc⟩
theorem seq_ix {r : Int} {n : Nat} (h0 : 0 ≤ r) (h1 : r < n) : seqIndex? r n = some r.toNat := by
  refine (ixN_seq (j := r.toNat) ?_).1
  unfold ixN
  rw [if_pos h0, if_pos h1]
theorem ok_tree {f : Addr} {fd : FuncData} (F : Fun K "_law_tree" "_law_tree" s_law_tree f fd) (T : Txt mg) (C_law_next : Cal P w K mg base 2 "_law_next" spNext) (C_law_names : Cal P w K mg base 4 "_law_names" spNames) : FnOk P w K mg base CX0 5 f fd ["deck", "most"] (spTree K) := by
  refine F.ok sc_law_tree (fun vs H Q E h => ?_) (fun cdv A outer s H vs Q E hr h => ?_)
  · obtain ⟨d, c, n, most, rfl, _⟩ := h
    rfl
  · obtain ⟨d, c, n, most, rfl, hD, hn, hm1, hm, q⟩ := h
    refine ⟨_, (pss_cons (ps_set (i := 2) sc_law_tree.nd rfl (.inl rfl) (pe_ix ix_list (pe_lst (pa_cons (pe_op op_add pe_int (pe_c C_law_next hr (by decide) rfl (pa_cons (pv 0) (pa_cons (pv 1) pa_nil)))) (pa_cons (pv 1) (pa_cons (pe_op op_add pe_int (pe_c C_law_next hr (by decide) rfl (pa_cons (pv 0) (pa_cons pe_int pa_nil)))) pa_nil)))) (pe_c C_law_next hr (by decide) rfl (pa_cons (pv 0) (pa_cons pe_int pa_nil))) (fun _ _ => rfl)))
      (pss_cons (ps_set (i := 3) sc_law_tree.nd rfl (.inl rfl) (pe_c C_law_names hr (by decide) rfl (pa_cons (pv 0) (pa_cons (pv 2) pa_nil))))
      (pss_cons (ps_set (i := 4) sc_law_tree.nd rfl (.inl rfl) (pe_c C_law_next hr (by decide) rfl (pa_cons (pv 0) (pa_cons pe_int pa_nil))))
      (pss_cons (ps_set (i := 5) sc_law_tree.nd rfl (.inl rfl) (pe_c C_law_next hr (by decide) rfl (pa_cons (pv 0) (pa_cons pe_int pa_nil))))
      (pss_cons (ps_set (i := 6) sc_law_tree.nd rfl (.inr rfl) (pe_lst pa_nil))
      (pss_cut (ps_for PassesOwn.never rfl (pi_range2 (by rfl) T.range (pa_cons pe_int (pa_cons (pv 2) pa_nil))) (pg_name (i := 7) sc_law_tree.nd rfl (.inl rfl))
        (pss_cons (ps_set (i := 8) sc_law_tree.nd rfl (.inl rfl) (pe_lst (pa_cons (pe_op op_sub (pv 7) pe_int) (pa_cons pe_int (pa_cons (pe_c C_law_next hr (by decide) rfl (pa_cons (pv 0) (pa_cons (pv 7) pa_nil))) (pa_cons (pe_op op_fdiv (pe_op op_sub (pv 7) pe_int) pe_int) (pa_cons (pe_op op_sub (pe_op op_sub (pv 7) pe_int) (pe_callTy call_int1 (by rfl) T.int bt_int (pa_cons (pe_cmpR op_eq (pe_op op_mod (pv 7) pe_int) pe_int (nomark _)) pa_nil))) (pa_cons (pe_callB (call_max2 rfl) (by rfl) T.max bt_max (pa_cons pe_int (pa_cons (pe_op op_sub (pv 7) pe_int) pa_nil))) pa_nil))))))))
        (pss_cons (ps_set (i := 9) sc_law_tree.nd rfl (.inl rfl) (pe_ix ix_list (pv 8) (pv 4) (fun _ _ => rfl)))
        (pss_cons (ps_set (i := 10) sc_law_tree.nd rfl (.inl rfl) (pe_op op_add pe_int (pe_ix ix_list (pe_lst (pa_cons (pe_c C_law_next hr (by decide) rfl (pa_cons (pv 0) (pa_cons (pe_op op_pow pe_int pe_int) pa_nil))) (pa_cons pe_int (pa_cons (pe_c C_law_next hr (by decide) rfl (pa_cons (pv 0) (pa_cons pe_int pa_nil))) (pa_cons (pe_op op_sub (pe_op op_pow pe_int pe_int) pe_int) pa_nil))))) (pv 5) (fun _ _ => rfl))))
        (pss_cons (ps_set (i := 11) sc_law_tree.nd rfl (.inl rfl) (pe_ix ix_list (pe_lst (pa_cons (pe_tup (pa_cons (pe_ix ix_list (pv 3) (pv 9) (fun _ _ => rfl)) (pa_cons (pe_ix ix_list (pv 3) (pv 7) (fun _ _ => rfl)) pa_nil))) (pa_cons (pe_tup (pa_cons (pe_ix ix_list (pv 3) (pv 7) (fun _ _ => rfl)) (pa_cons (pe_ix ix_list (pv 3) (pv 9) (fun _ _ => rfl)) pa_nil))) pa_nil))) (pe_c C_law_next hr (by decide) rfl (pa_cons (pv 0) (pa_cons pe_int pa_nil))) (fun _ _ => rfl)))
        (pss_one (ps_expr (pe_bm PySem.F.plainAttrs_list PySem.F.slot_list_append PySem.F.type_list_append mt_append (pv 6) (pa_cons (pe_op op_catA (pv 11) (pe_tup (pa_cons (pv 10) pa_nil))) pa_nil)))))))))
      (pss_cons (ps_set (i := 12) sc_law_tree.nd rfl (.inr rfl) (pe_callTy call_list_of (by rfl) T.list bt_list (pa_cons (pv 3) pa_nil)))
      (pss_cons (ps_setLc (i := 13) (own := [("k", 7)]) (g := gName 7) (tt := tYes) rfl sc_law_tree.nd rfl rfl (sw_true rfl rfl rfl (by decide +kernel)) (pi_range1 (by rfl) T.range (pa_cons (pv 2) pa_nil)) (blkOk_by (N := N_law_tree) (sc := defScope s_law_tree) (by decide +kernel)) (fun _ _ _ _ _ => pg_name (i := 7) sc_law_tree.nd rfl (Or.inl rfl)) (fun _ _ _ _ _ => pts_nil) (fun _ _ _ _ _ => (show PE _ _ (tBM K "list" rPopAt _ _) from pe_bm PySem.F.plainAttrs_list PySem.F.slot_list_pop PySem.F.type_list_pop mt_popAt (pv 12) (pa_cons (pe_c C_law_next hr (by decide) rfl (pa_cons (pv 0) (pa_cons (pe_callB (lenK (K := K)) (by rfl) T.len bt_len (pa_cons (pv 12) pa_nil)) pa_nil))) pa_nil))))
      (pss_cons (ps_setLc (i := 14) (own := [("k", 7)]) (g := gName 7) (tt := tYes) rfl sc_law_tree.nd rfl rfl (sw_true rfl rfl rfl (by decide +kernel)) (pi_range1 (by rfl) T.range (pa_cons (pe_op op_sub (pv 2) pe_int) pa_nil)) (blkOk_by (N := N_law_tree) (sc := defScope s_law_tree) (by decide +kernel)) (fun _ _ _ _ _ => pg_name (i := 7) sc_law_tree.nd rfl (Or.inl rfl)) (fun _ _ _ _ _ => pts_nil) (fun _ _ _ _ _ => (show PE _ _ (tBM K "list" rPopAt _ _) from pe_bm PySem.F.plainAttrs_list PySem.F.slot_list_pop PySem.F.type_list_pop mt_popAt (pv 6) (pa_cons (pe_c C_law_next hr (by decide) rfl (pa_cons (pv 0) (pa_cons (pe_callB (lenK (K := K)) (by rfl) T.len bt_len (pa_cons (pv 6) pa_nil)) pa_nil))) pa_nil))))
      (pss_one (ps_ret (pe_tup (pa_cons (pe_tupleZ (by rfl) T.tuple (pe_ix ix_list (pe_lst (pa_cons (pv 13) (pa_cons (pv 3) pa_nil))) (pe_c C_law_next hr (by decide) rfl (pa_cons (pv 0) (pa_cons pe_int pa_nil))) (fun _ _ => rfl))) (pa_cons (pe_tupleOf (by rfl) T.tuple (pv 14)) pa_nil)))))))))))))), ?_⟩
    -- many
    refine ⟨_, rfl, _, rfl, d, c, n, most, rfl, hD, by omega, by omega, by omega, fun H1 r1 r10 r11 S1 D1 => ?_⟩
    refine ⟨_, _, rfl, rfl, _, rfl, _, rfl, d, c, _, 4, rfl, D1, by omega, by decide, by decide, fun H2 r2 r20 r21 S2 D2 => ?_⟩
    refine ⟨_, _, rfl, rfl, (by show 3 ≤ sizeLine; decide), fun p1 np1 => ?_⟩
    refine ⟨_, rfl, d, c, _, 3, rfl, D2.new np1, by omega, by decide, by decide, fun H3 r3 r30 r31 S3 D3 => ?_⟩
    have hp1 := S3 p1 _ (D2.nd np1) upd_same
    have SM3 : SmX d H H3 := ((S1.trans S2).new np1).trans S3
    obtain ⟨v, hv, mv⟩ := atI_in (xs := [V.int (1 + r1), .int most, .int (1 + r2)]) r30 (by simpa using r31)
    have hs : ∃ m : Nat, v = .int m ∧ 1 ≤ m ∧ m ≤ 30 ∧ m ≤ max most 4 := by
      simp only [List.mem_cons, List.not_mem_nil, or_false] at mv
      rcases mv with e | e | e
      · exact ⟨(1 + r1).toNat, by rw [e]; congr 1; omega, by omega, by omega, by omega⟩
      · exact ⟨most, e, by omega, by omega, by omega⟩
      · exact ⟨(1 + r2).toNat, by rw [e]; congr 1; omega, by omega, by omega, by omega⟩
    obtain ⟨many, rfl, m1, m30, mm⟩ := hs
    refine ⟨p1, _, r3, _, rfl, rfl, SqL.of hp1, hv, ?_⟩
    -- names
    refine ⟨_, rfl, _, rfl, d, c, _, many, rfl, D3, by omega, m30, fun H4 p ls np npd npc hN4 hl nd ok S4 D4 => ?_⟩
    have SM4 : SmX d H H4 := SM3.trans S4
    have np0 : H p = none := SM3.free np npd
    -- way, long
    refine ⟨_, rfl, d, c, _, 6, rfl, D4, by omega, by decide, by decide, fun H5 way w0 w1 S5 D5 => ?_⟩
    have hN5 : NamesAt H5 p ls := S5 p _ npd hN4
    refine ⟨_, rfl, d, c, _, 4, rfl, D5, by omega, by decide, by decide, fun H6 long g0 g1 S6 D6 => ?_⟩
    have hN6 : NamesAt H6 p ls := S6 p _ npd hN5
    have SM6 : SmX d H H6 := (SM4.trans S5).trans S6
    -- ties
    refine ⟨Nat.zero_le _, fun t nt => ?_⟩
    have ntd : t ≠ d := D6.nd nt
    have ntc : t ≠ c := D6.nc nt
    have ntp : p ≠ t := ne_of_none hN6 nt
    have nt0 : H t = none := SM6.free nt ntd
    have hk0 : 0 < ls.length := by omega
    -- the loop
    refine ⟨fun σ' H' => ∃ (x7 x8 x9 x10 x11 : Option V) (tvs : List V) (ts : List Tie), σ' = [some (.ref d), some (.int most), some (.int many), some (.ref p), some (.int way), some (.int long), some (.ref t), x7, x8, x9, x10, x11, none, none, none] ∧ Grown ls ts ∧ Tr K H H' d c p t (n + 726) ls tvs ts, ?_, fun σ' H' hM => ?_⟩
    · refine ⟨_, rfl, 1, many, rfl, ⟨by decide, by decide, by omega, by omega⟩, ?_⟩
      refine for_range (lo := 1) (n := ((many : Int) - 1).toNat) (fun i σ' H' => ∃ (x7 x8 x9 x10 x11 : Option V) (tvs : List V) (ts : List Tie), σ' = [some (.ref d), some (.int most), some (.int many), some (.ref p), some (.int way), some (.int long), some (.ref t), x7, x8, x9, x10, x11, none, none, none] ∧ Grown (ls.take (i + 1)) ts ∧ Tr K H H' d c p t (n + 605 + 4 * i) ls tvs ts) ⟨none, none, none, none, none, [], [], rfl, ?_, ?_, upd_same, .nil, SM6.new nt, (D6.new nt).mono (by omega)⟩ (fun i σ' H' hi hP => ?_) (fun σ' H' hP => ?_)
      · cases ls with
        | nil => exact absurd hk0 (by decide)
        | cons a r => exact Grown.one a
      · unfold NamesAt
        rw [upd_ne ntp]
        exact hN6
      · obtain ⟨x7, x8, x9, x10, x11, tvs, ts, rfl, hG, X0⟩ := hP
        have hi' : i + 1 < many := by omega
        -- some
        refine ⟨_, rfl, _, _, rfl, rfl, _, rfl, _, rfl, d, c, _, _, rfl, X0.dk, by omega, by omega, by omega, fun H7 a a0 a1 S7 D7 => ?_⟩
        have X7 := X0.step npd ntd S7 D7
        refine ⟨_, rfl, _, _, rfl, rfl, _, _, rfl, rfl, ⟨by decide, by decide⟩, _, rfl, _, _, rfl, rfl, _, rfl, _, _, rfl, rfl, (by show (0 : Int) < _; decide), rfl, .inr ⟨_, rfl, _, _, rfl, rfl, _, rfl, _, _, rfl, rfl, _, _, rfl, (by show 6 ≤ sizeLine; decide), fun p8 np8 => ?_⟩⟩
        have X8 := X7.new (o := .lst [V.int (1 + (i : Int) - 1), .int 0, .int a, .int ((1 + (i : Int) - 1) / 2), .int (1 + (i : Int) - 1 - if decide (V.int ((1 + (i : Int)) % 2) = V.int 0) = true then 1 else 0), .int (if 1 + (i : Int) - 2 > 0 then 1 + (i : Int) - 2 else 0)]) np8
        obtain ⟨v, hv, mv⟩ := atI_in (xs := [V.int (1 + (i : Int) - 1), .int 0, .int a, .int ((1 + (i : Int) - 1) / 2), .int (1 + (i : Int) - 1 - if decide (V.int ((1 + (i : Int)) % 2) = V.int 0) = true then 1 else 0), .int (if 1 + (i : Int) - 2 > 0 then 1 + (i : Int) - 2 else 0)]) w0 (by simpa using w1)
        have hs : ∃ m : Nat, v = .int m ∧ m < i + 1 := by
          simp only [List.mem_cons, List.not_mem_nil, or_false] at mv
          rcases mv with e | e | e | e | e | e
          · exact ⟨i, by rw [e]; congr 1; omega, by omega⟩
          · exact ⟨0, e, by omega⟩
          · exact ⟨a.toNat, by rw [e]; congr 1; omega, by omega⟩
          · exact ⟨i / 2, by rw [e]; congr 1; omega, by omega⟩
          · by_cases z : (1 + (i : Int)) % 2 = 0
            · rw [z, if_pos (by decide)] at e
              exact ⟨i - 1, by rw [e]; congr 1; omega, by omega⟩
            · rw [if_neg (fun y => z (V.int.inj (of_decide_eq_true y)))] at e
              exact ⟨i, by rw [e]; congr 1; omega, by omega⟩
          · by_cases z : 1 + (i : Int) - 2 > 0
            · rw [if_pos z] at e
              exact ⟨i - 1, by rw [e]; congr 1; omega, by omega⟩
            · rw [if_neg z] at e
              exact ⟨0, e, by omega⟩
        obtain ⟨at', rfl, hat⟩ := hs
        refine ⟨_, rfl, _, rfl, p8, _, way, _, rfl, rfl, SqL.of upd_same, hv, ?_⟩
        -- length
        refine ⟨_, rfl, _, _, rfl, rfl, ⟨by decide, by decide, by decide⟩, d, c, _, _, rfl, X8.dk, by omega, by decide, by decide, fun H9 u u0 u1 S9 D9 => ?_⟩
        have X9 := X8.step npd ntd S9 D9
        refine ⟨_, rfl, d, c, _, 3, rfl, X9.dk, by omega, by decide, by decide, fun H10 u' u0' u1' S10 D10 => ?_⟩
        have X10 := X9.step npd ntd S10 D10
        refine ⟨_, _, rfl, rfl, ⟨by decide, by decide, by decide⟩, _, _, rfl, rfl, (by show 4 ≤ sizeLine; decide), fun p9 np9 => ?_⟩
        have X11 := X10.new (o := .lst [V.int u, .int 0, .int u', .int (10 ^ (6 : Int).toNat - 1)]) np9
        obtain ⟨v, hv, mv⟩ := atI_in (xs := [V.int u, .int 0, .int u', .int (10 ^ (6 : Int).toNat - 1)]) g0 (by simpa using g1)
        have hs : ∃ m : Int, v = .int m ∧ 0 ≤ m ∧ m < 1000000 := by
          have e6 : (10 : Int) ^ (6 : Int).toNat = 1000000 := by decide
          rw [e6] at mv u1
          simp only [List.mem_cons, List.not_mem_nil, or_false] at mv
          rcases mv with e | e | e | e
          · exact ⟨u, e, u0, u1⟩
          · exact ⟨0, e, by omega, by omega⟩
          · exact ⟨u', e, by omega, by omega⟩
          · exact ⟨999999, e, by omega, by omega⟩
        obtain ⟨lg, rfl, lg0, lg1⟩ := hs
        refine ⟨_, rfl, p9, _, long, _, rfl, rfl, SqL.of upd_same, hv, _, _, rfl, rfl, ?_⟩
        -- ends
        have la : at' < ls.length := by omega
        have lk : i + 1 < ls.length := by omega
        have ga : ((ls.map S).map V.str)[at']? = some (.str (S ls[at'])) := by
          rw [List.getElem?_map, List.getElem?_map, List.getElem?_eq_getElem la]
          rfl
        have gk : ((ls.map S).map V.str)[i + 1]? = some (.str (S ls[i + 1])) := by
          rw [List.getElem?_map, List.getElem?_map, List.getElem?_eq_getElem lk]
          rfl
        have ek : 1 + (i : Int) = ((i + 1 : Nat) : Int) := by omega
        refine ⟨_, rfl, _, rfl, p, _, at', _, rfl, rfl, SqL.of X11.nm, atI_nat ga, _, rfl, _, rfl, p, _, 1 + (i : Int), _, rfl, rfl, SqL.of X11.nm, at_of ek gk, (by show 2 ≤ sizeLine; decide), fun e1 ne1 => ?_⟩
        have X12 := X11.new (o := .tup [.str (S ls[at']), .str (S ls[i + 1])]) ne1
        refine ⟨_, rfl, _, rfl, p, _, 1 + (i : Int), _, rfl, rfl, SqL.of X12.nm, at_of ek gk, _, rfl, _, rfl, p, _, at', _, rfl, rfl, SqL.of X12.nm, atI_nat ga, (by show 2 ≤ sizeLine; decide), fun e2 ne2 => ?_⟩
        have X13 := X12.new (o := .tup [.str (S ls[i + 1]), .str (S ls[at'])]) ne2
        refine ⟨(by show 2 ≤ sizeLine; decide), fun p10 np10 => ?_⟩
        have X14 := X13.new (o := .lst [.ref e1, .ref e2]) np10
        refine ⟨_, rfl, d, c, _, 2, rfl, X14.dk, by omega, by decide, by decide, fun H15 b b0 b1 S15 D15 => ?_⟩
        have X15 := X14.step npd ntd S15 D15
        have h1 : H15 e1 = some (.tup [.str (S ls[at']), .str (S ls[i + 1])]) := S15 e1 _ (X11.dk.nd ne1) (by rw [upd_ne (ne_of_none (by rw [upd_ne (ne_of_none upd_same ne2)]; exact upd_same) np10), upd_ne (ne_of_none upd_same ne2)]; exact upd_same)
        have h2 : H15 e2 = some (.tup [.str (S ls[i + 1]), .str (S ls[at'])]) := S15 e2 _ (X12.dk.nd ne2) (by rw [upd_ne (ne_of_none upd_same np10)]; exact upd_same)
        have h3 : H15 p10 = some (.lst [.ref e1, .ref e2]) := S15 p10 _ (X13.dk.nd np10) upd_same
        obtain ⟨v, hv, mv⟩ := atI_in (xs := [V.ref e1, .ref e2]) b0 (by simpa using b1)
        have hs : ∃ (e : Addr) (xa xb : Nm), v = .ref e ∧ H15 e = some (.tup [.str (S xa), .str (S xb)]) ∧ ((xa = ls[at'] ∧ xb = ls[i + 1]) ∨ (xa = ls[i + 1] ∧ xb = ls[at'])) := by
          simp only [List.mem_cons, List.not_mem_nil, or_false] at mv
          rcases mv with e | e
          · exact ⟨e1, _, _, e, h1, .inl ⟨rfl, rfl⟩⟩
          · exact ⟨e2, _, _, e, h2, .inr ⟨rfl, rfl⟩⟩
        obtain ⟨e, xa, xb, rfl, he, hab⟩ := hs
        refine ⟨p10, _, b, _, rfl, rfl, SqL.of h3, hv, ?_⟩
        -- ties.append(ends + (length,))
        refine ⟨_, rfl, .inl ⟨rfl, _, SqL.of X15.tt⟩, _, rfl, _, rfl, (by show 1 ≤ sizeLine; decide), fun e3 ne3 => ?_⟩
        have X16 := X15.new (o := .tup [.int (1 + lg)]) ne3
        refine ⟨e, e3, [.str (S xa), .str (S xb)], [.int (1 + lg)], rfl, rfl, .inl (.inl (by rw [upd_ne (ne_of_none he ne3)]; exact he)), .inl (.inl upd_same), (by show 3 ≤ sizeLine; decide), (fun z => nomatch z), (fun _ z => nomatch z), fun _ _ e4 ne4 => ?_⟩
        have X17 := X16.new (o := .tup ([.str (S xa), .str (S xb)] ++ [.int (1 + lg)])) ne4
        have tl : tvs.length = ts.length := by
          have := DtAll.len X17.al
          rwa [List.length_map] at this
        have gl := hG.len
        rw [List.length_take] at gl
        refine ⟨t, tvs, _, rfl, rfl, X17.tt, sz_lt (by omega), ?_⟩
        refine ⟨_, _, _, _, _, tvs ++ [.ref e4], ts ++ [(xa, xb, 1 + lg)], rfl, ?_, ?_, upd_same, ?_, X17.sm.put nt0, (X17.dk.put ntd ntc).mono (by omega)⟩
        · have e5 : ls.take (i + 1 + 1) = ls.take (i + 1) ++ [ls[i + 1]] := by
            rw [List.take_add_one, List.getElem?_eq_getElem lk]
            rfl
          rw [e5]
          refine Grown.leaf (a := ls[at']) (k := 1 + lg) hG ?_ ?_ ?_ (by omega) (by omega)
          · exact List.mem_take_iff_getElem.mpr ⟨at', by omega, rfl⟩
          · intro hm
            obtain ⟨j, hj, ej⟩ := List.mem_take_iff_getElem.mp hm
            have := (List.getElem_inj nd).mp ej
            omega
          · rcases hab with ⟨z1, z2⟩ | ⟨z1, z2⟩ <;> rw [z1, z2]
            · exact .inl rfl
            · exact .inr rfl
        · unfold NamesAt
          rw [upd_ne ntp]
          exact X17.nm
        · rw [List.map_append]
          have tk : TK (upd (upd H15 e3 (.tup [.int (1 + lg)])) e4 (.tup ([.str (S xa), .str (S xb)] ++ [.int (1 + lg)]))) (upd (upd (upd H15 e3 (.tup [.int (1 + lg)])) e4 (.tup ([.str (S xa), .str (S xb)] ++ [.int (1 + lg)]))) t (.lst (tvs ++ [.ref e4]))) := TK.mut X17.tt
          refine DtAll.app (DtAll.keep tk X17.al) (.cons (.tup (tk.tup _ _ upd_same) (.cons (.str _) (.cons (.str _) (.cons (.int _) .nil)))) .nil)
      · obtain ⟨x7, x8, x9, x10, x11, tvs, ts, rfl, hG, X0⟩ := hP
        refine ⟨_, _, _, _, _, tvs, ts, rfl, ?_, X0.nm, X0.tt, X0.al, X0.sm, X0.dk.mono (by omega)⟩
        have : ls.take (((many : Int) - 1).toNat + 1) = ls := List.take_of_length_le (by omega)
        rwa [this] at hG
    · obtain ⟨x7, x8, x9, x10, x11, tvs, ts, rfl, hG, X0⟩ := hM
      -- left
      refine ⟨_, rfl, p, _, rfl, .inl (SqL.of X0.nm), fun lf nlf => ?_⟩
      have X1 := X0.new (o := .lst ((ls.map S).map V.str)) nlf
      have lfd := X0.dk.nd nlf
      have lfc := X0.dk.nc nlf
      have lf0 : H lf = none := X0.sm.free nlf lfd
      have lfp : lf ≠ p := (ne_of_none X0.nm nlf).symm
      have lft : lf ≠ t := (ne_of_none X0.tt nlf).symm
      -- places
      refine ⟨_, rfl, (many : Int), rfl, by omega, by omega, fun D nD => ?_⟩
      have Dd := X1.dk.nd nD
      have Dc := X1.dk.nc nD
      have D0 : H D = none := X1.sm.free nD Dd
      have Dp' : D ≠ p := (ne_of_none X1.nm nD).symm
      have DNt : D ≠ t := (ne_of_none X1.tt nD).symm
      have Dlf : D ≠ lf := (ne_of_none upd_same nD).symm
      refine lc_range (lo := 0) (n := (many : Int).toNat) (fun i H'' => ∃ l1 l2 : List Nm, l1.length = i ∧ (l1 ++ l2).Perm ls ∧ H'' D = some (.lst ((l1.map S).map V.str)) ∧ H'' lf = some (.lst ((l2.map S).map V.str)) ∧ Tr K H H'' d c p t (n + 726 + i) ls tvs ts)
        ⟨[], ls, rfl, List.Perm.refl _, upd_same, by rw [upd_ne Dlf.symm]; exact upd_same, X1.new nD⟩ (fun i H'' hi hP => ?_) (fun H'' hP => ?_)
      · obtain ⟨l1, l2, hl1, pm, hD, hlf, X2⟩ := hP
        have ll := pm.length_eq
        rw [List.length_append] at ll
        refine ⟨rfl, _, rfl, .inl ⟨rfl, _, SqL.of hlf⟩, _, rfl, _, rfl, .ref lf, _, rfl, .inl ⟨_, SqL.of hlf, rfl⟩, d, c, _, _, rfl, X2.dk, by omega, by rw [List.length_map, List.length_map]; omega, by rw [List.length_map, List.length_map]; omega, fun H3 r r0 r1 S3 D3 => ?_⟩
        have X3 := X2.step npd ntd S3 D3
        have hD3 := S3 D _ Dd hD
        have hlf3 := S3 lf _ lfd hlf
        rw [List.length_map, List.length_map] at r1
        have hx : l2[r.toNat]? = some (l2[r.toNat]'(by omega)) := List.getElem?_eq_getElem (by omega)
        generalize l2[r.toNat]'(by omega) = x at hx
        have hx' : ((l2.map S).map V.str)[r.toNat]? = some (.str (S x)) := by
          rw [List.getElem?_map, List.getElem?_map, hx]
          rfl
        refine ⟨lf, _, r, r.toNat, .str (S x), rfl, rfl, hlf3, by omega, by omega, seq_ix r0 (by rw [List.length_map, List.length_map]; exact r1), hx', ?_⟩
        have X4 := X3.put (o := .lst (((l2.map S).map V.str).eraseIdx r.toNat)) lfp lft lfd lfc lf0 hlf3
        have hD4 : (upd H3 lf (.lst (((l2.map S).map V.str).eraseIdx r.toNat))) D = some (.lst ((l1.map S).map V.str)) := by
          rw [upd_ne Dlf]
          exact hD3
        refine ⟨_, hD4, by rw [List.length_map, List.length_map]; exact sz_lt (by omega), l1 ++ [x], l2.eraseIdx r.toNat, by rw [List.length_append, hl1]; rfl, perm_pick pm hx, ?_, ?_, X4.put Dp' DNt Dd Dc D0 hD4⟩
        · rw [upd_same, List.map_append, List.map_append]
          rfl
        · rw [upd_ne Dlf.symm, upd_same, map_erase, map_erase]
      · obtain ⟨l1, l2, hl1, pm, hD, hlf, X2⟩ := hP
        have ll := pm.length_eq
        rw [List.length_append] at ll
        have e2 : l2 = [] := List.length_eq_zero_iff.mp (by omega)
        subst e2
        rw [List.append_nil] at pm
        have gl := hG.len
        -- mixed
        refine ⟨_, rfl, _, _, rfl, rfl, (many : Int) - 1, rfl, by omega, by omega, fun G nG => ?_⟩
        have Gd := X2.dk.nd nG
        have Gc := X2.dk.nc nG
        have G0 : H G = none := X2.sm.free nG Gd
        have Gp : G ≠ p := (ne_of_none X2.nm nG).symm
        have Gt : G ≠ t := (ne_of_none X2.tt nG).symm
        have GD : G ≠ D := (ne_of_none hD nG).symm
        refine lc_range (lo := 0) (n := ((many : Int) - 1).toNat) (fun i H'' => ∃ (ts1 ts2 : List Tie) (vs1 vs2 : List V), ts1.length = i ∧ (ts1 ++ ts2).Perm ts ∧ H'' D = some (.lst ((l1.map S).map V.str)) ∧ H'' G = some (.lst vs1) ∧ DtAll H'' vs1 (ts1.map tieD) ∧ Tr K H H'' d c p t (n + 756 + i) ls vs2 ts2)
          ⟨[], ts, [], tvs, rfl, List.Perm.refl _, by rw [upd_ne GD.symm]; exact hD, upd_same, .nil, ?_⟩ (fun i H3 hi hP => ?_) (fun H3 hP => ?_)
        · have := X2.new (o := .lst []) nG
          exact ⟨this.nm, this.tt, this.al, this.sm, this.dk.mono (by omega)⟩
        · obtain ⟨ts1, ts2, vs1, vs2, hl1', pm', hD3, hG3, hA3, X3⟩ := hP
          have ll' := pm'.length_eq
          rw [List.length_append] at ll'
          have v2 : vs2.length = ts2.length := by
            have := DtAll.len X3.al
            rwa [List.length_map] at this
          have v1 : vs1.length = ts1.length := by
            have := DtAll.len hA3
            rwa [List.length_map] at this
          refine ⟨rfl, _, rfl, .inl ⟨rfl, _, SqL.of X3.tt⟩, _, rfl, _, rfl, .ref t, _, rfl, .inl ⟨_, SqL.of X3.tt, rfl⟩, d, c, _, _, rfl, X3.dk, by omega, by omega, by omega, fun H4 r r0 r1 S4 D4 => ?_⟩
          have X4 := X3.step npd ntd S4 D4
          have hD4 := S4 D _ Dd hD3
          have hG4 := S4 G _ Gd hG3
          have hA4 := DtAll.keep (X3.dk.tk S4) hA3
          have hy : vs2[r.toNat]? = some (vs2[r.toNat]'(by omega)) := List.getElem?_eq_getElem (by omega)
          generalize vs2[r.toNat]'(by omega) = y at hy
          obtain ⟨dy, hdy, hDy⟩ := DtAll.get X4.al hy
          have hx : ts2[r.toNat]? = some (ts2[r.toNat]'(by omega)) := List.getElem?_eq_getElem (by omega)
          generalize ts2[r.toNat]'(by omega) = x at hx
          have edy : dy = tieD x := by
            rw [List.getElem?_map, hx] at hdy
            exact (Option.some.inj hdy).symm
          subst edy
          refine ⟨t, _, r, r.toNat, y, rfl, rfl, X4.tt, by omega, by omega, seq_ix r0 r1, hy, ?_⟩
          have X5 := X4.take (k := r.toNat) ntp ntd ntc nt0
          have hG5 : (upd H4 t (.lst (vs2.eraseIdx r.toNat))) G = some (.lst vs1) := by
            rw [upd_ne Gt]
            exact hG4
          have hD5 : (upd H4 t (.lst (vs2.eraseIdx r.toNat))) D = some (.lst ((l1.map S).map V.str)) := by
            rw [upd_ne DNt]
            exact hD4
          have tk : TK H4 (upd (upd H4 t (.lst (vs2.eraseIdx r.toNat))) G (.lst (vs1 ++ [y]))) := (TK.mut X4.tt).trans (TK.mut hG5)
          refine ⟨_, hG5, sz_lt (by omega), ts1 ++ [x], ts2.eraseIdx r.toNat, vs1 ++ [y], vs2.eraseIdx r.toNat, by rw [List.length_append, hl1']; rfl, perm_pick pm' hx, by rw [upd_ne GD.symm]; exact hD5, upd_same, ?_, X5.put Gp Gt Gd Gc G0 hG5⟩
          rw [List.map_append]
          exact DtAll.app (DtAll.keep tk hA4) (.cons (Dt.keep tk hDy) .nil)
        · obtain ⟨ts1, ts2, vs1, vs2, hl1', pm', hD3, hG3, hA3, X3⟩ := hP
          have ll' := pm'.length_eq
          rw [List.length_append] at ll'
          have e2 : ts2 = [] := List.length_eq_zero_iff.mp (by omega)
          subst e2
          rw [List.append_nil] at pm'
          -- return
          refine ⟨_, rfl, _, rfl, (by show 2 ≤ sizeLine; decide), fun p20 np20 => ?_⟩
          have X4 := X3.new (o := .lst [.ref D, .ref p]) np20
          refine ⟨_, rfl, d, c, _, 2, rfl, X4.dk, by omega, by decide, by decide, fun H5 b b0 b1 S5 D5 => ?_⟩
          have X5 := X4.step npd ntd S5 D5
          have hD5 : H5 D = some (.lst ((l1.map S).map V.str)) := S5 D _ Dd (by rw [upd_ne (ne_of_none hD3 np20)]; exact hD3)
          have hG5 : H5 G = some (.lst vs1) := S5 G _ Gd (by rw [upd_ne (ne_of_none hG3 np20)]; exact hG3)
          have hA5 : DtAll H5 vs1 (ts1.map tieD) := DtAll.keep ((TK.new np20).trans (X4.dk.tk S5)) hA3
          obtain ⟨v, hv, mv⟩ := atI_in (xs := [V.ref D, .ref p]) b0 (by simpa using b1)
          have hs : ∃ (e : Addr) (pl : List Nm), v = .ref e ∧ H5 e = some (.lst ((pl.map S).map V.str)) ∧ pl.Perm ls := by
            simp only [List.mem_cons, List.not_mem_nil, or_false] at mv
            rcases mv with e | e
            · exact ⟨D, l1, e, hD5, pm⟩
            · exact ⟨p, ls, e, X5.nm, List.Perm.refl _⟩
          obtain ⟨e, pl, rfl, he, hpl⟩ := hs
          refine ⟨p20, _, b, _, rfl, rfl, SqL.of (S5 p20 _ (X3.dk.nd np20) upd_same), hv, e, _, rfl, SqL.of he, fun q1 o nq1 od => ?_⟩
          have X6 := X5.new (o := .frz o (.tup ((pl.map S).map V.str))) nq1
          refine ⟨_, rfl, .inl ⟨G, vs1, rfl, SqL.of (by rw [upd_ne (ne_of_none hG5 nq1)]; exact hG5), fun q2 nq2 => ?_⟩⟩
          have X7 := X6.new (o := .tup vs1) nq2
          refine ⟨(by show 2 ≤ sizeLine; decide), fun q3 nq3 => ?_⟩
          have X8 := X7.new (o := .tup [.ref q1, .ref q2]) nq3
          have tk1 : TK (upd H5 q1 (.frz o (.tup ((pl.map S).map V.str)))) (upd (upd (upd H5 q1 (.frz o (.tup ((pl.map S).map V.str)))) q2 (.tup vs1)) q3 (.tup [.ref q1, .ref q2])) := (TK.new nq2).trans (TK.new nq3)
          have tk2 : TK (upd (upd H5 q1 (.frz o (.tup ((pl.map S).map V.str)))) q2 (.tup vs1)) (upd (upd (upd H5 q1 (.frz o (.tup ((pl.map S).map V.str)))) q2 (.tup vs1)) q3 (.tup [.ref q1, .ref q2])) := TK.new nq3
          have tk0 : TK H5 (upd (upd (upd H5 q1 (.frz o (.tup ((pl.map S).map V.str)))) q2 (.tup vs1)) q3 (.tup [.ref q1, .ref q2])) := (TK.new nq1).trans tk1
          have it : IsTree pl ts1 := ⟨ls, ts, hG, hpl, pm'⟩
          have plne : pl ≠ [] := fun z => by
            have := it.len
            rw [z] at this
            simp at this
          refine q _ q3 pl ts1 it (fun l hl => ok l (hpl.mem_iff.mp hl)) (by rw [hpl.length_eq]; omega) (.tup upd_same (.cons (.tupZ rfl plne od (tk1.frz _ _ _ upd_same)) (.cons (.tup (tk2.tup _ _ upd_same) (DtAll.keep tk0 hA5)) .nil))) ⟨q3, q1, q2, o, rfl, upd_same, od, tk1.frz _ _ _ upd_same⟩ X8.sm (X8.dk.mono (by omega))
end
end Far

namespace Far
open PySem PySem.Spec PyProof.Rows L2
section
variable {X : Cx}
theorem countU {x : V} : ∀ {ys : List V} {us : List Value}, Vals ys us → ys.all flatV = true → us.countP (eqU x) = ys.countP (fun y => eqV y x)
  | _, _, .nil, _ => rfl
  | y :: ys, u :: us, .cons r t, f => by
    rw [List.all_cons, Bool.and_eq_true] at f
    rw [List.countP_cons, List.countP_cons, eqU_of r f.1, countU t f.2]
/-- list.count of a flat value in a list of flat values -/
def rCountV (K : PySem.W.Frag) : V → List V → Hp → VK → Prop := fun x xs H Q => ∃ (p : Addr) (ys : List V) (y : V), x = .ref p ∧ xs = [y] ∧ SqL K H p ys ∧ flatV y = true ∧ ys.all flatV = true ∧ Q (.int (ys.countP (fun z => eqV z y) : Nat)) H
theorem mt_countV {K : PySem.W.Frag} (eK : X.K = K := by rfl) : MtR X "list.count" (rCountV K) := by
  subst eK
  intro pins s σ H x xs v us Q I rx rxs h
  obtain ⟨p, ys, y, rfl, rfl, hs, fy, fys, q⟩ := h
  cases rx
  obtain ⟨u, rfl, ru⟩ := rxs.one
  obtain ⟨its, rv, ⟨⟨cl, di, da, so⟩, n, ho, hc, hdn, hd⟩, hl⟩ := I.list hs
  simp only at hc hd
  subst hc hd
  refine call_meets PySem.F.slot_list_count ⟨_, ho, rfl⟩ PySem.F.entry_list_count (PySem.F.args_list_count_2 _ _) (SeqAt.list_countAt p its.toArray n di so u (eqU y)) ⟨ho, fun z hz => mem_eqAt ru fy rv fys z (by simpa using hz), ?_⟩
  refine ⟨.int (ys.countP (fun z => eqV z y) : Nat), H, I.tok _, ⟨s.toks, ?_⟩, q⟩
  have e : its.toArray.toList.countP (eqU y) = ys.countP (fun z => eqV z y) := countU rv fys
  rw [e]

/-! ### enumerate(xs, start=c) -/
theorem callWith_typeK {M : Model} {A : Around} {E : Value → Shared → Prop} {s : Shared} {pos : Pos} {T : String} {env : Env} {e : Expr} {rest : List Expr} {kws : List Keyword} {Q : Value → Shared → Prop}
    (h : wpAny M A (spliced (backTo pos (starEach (e :: rest) env))) (fun vs s1 => wpAny M A (evalAll ((backToKw pos (keywordEach kws env)).map (·.2)))
      (fun ws s2 => wpAny M A (call (.type T) vs (((backToKw pos (keywordEach kws env)).filterMap (·.1)).zip ws)) Q E s2) E s1) E s)
    (he : backTo pos (starEach (e :: rest) env) = (false, eval e env) :: backTo pos (starEach rest env) := by rfl)
    (hp : (backTo pos (starEach (e :: rest) env)).any (·.1) = false := by rfl)
    (ha : (backToKw pos (keywordEach kws env)).all (·.1.isSome) = true := by rfl)
    (hk : (backToKw pos (keywordEach kws env)).any (·.1.isNone) = false := by rfl) :
    wpAny M A (callWith pos (.type T) [] (backTo pos (starEach (e :: rest) env)) (backToKw pos (keywordEach kws env))) Q E s := by
  unfold callWith
  refine wpAny_bind (wpAny_holding (wpAny_mono (Q := fun a s1 => wpAny M A (call (.type T) ([] ++ a.pos) a.kw) Q E s1) ?_ (fun a s1 h1 => wpAny_bind (wpAny_standAt ?_)) fun _ _ x => x))
  · rw [he] at h ⊢
    exact evalArgs_kwB ha h
  · simp only [hp, hk, Bool.or_false]
    exact wpAny_bind (wpAny_pure (wpAny_bind (wpAny_mono h1 (fun r s2 hr => wpAny_bind (wpAny_holding (wpAny_point (wpAny_pure hr)))) fun _ _ x => x)))
/-- the pairs (c + i, item) of the list at a as it stands at each turn -/
def Ites (K : PySem.W.Frag) (a : Addr) (c : Int) : It :=
  ⟨fun i H => ∃ (xs : List V) (x : V), SqL K H a xs ∧ xs[i]? = some x,
   fun i H v H' => ∃ T x, v = .ref T ∧ H T = none ∧ H' = upd H T (.tup [.int (c + (i : Nat)), x]) ∧ ∀ xs, SqL K H a xs → xs[i]? = some x,
   fun i H => ∃ xs : List V, SqL K H a xs ∧ xs.length ≤ i⟩
theorem turn_enumS {P : Program} {w : World} {K : PySem.W.Frag} {elts : List Expr} {kk : Nat} {tpos : Pos} (a e it : Addr) (c : Int) :
    Turn P w K (.Tuple elts kk tpos) (Ites K a c) [e, it] e (fun i h => (∃ o, IsEnum h e it (c + ((i : Nat) : Int)) o) ∧ h.IsListIter it a i ∧ e ≠ it ∧ a ≠ it) where
  mem := by simp
  obj := fun i h st b hb => by
    obtain ⟨⟨o', he⟩, ⟨o, ho, hc, hd⟩, _⟩ := st
    rcases (show b = e ∨ b = it by simpa using hb) with rfl | rfl
    · exact ⟨_, he, fun v q => nomatch q⟩
    · exact ⟨o, ho, fun v q => by rw [hd] at q; cases q⟩
  keep := fun i h h' ⟨⟨o, he⟩, hi, hne⟩ k => ⟨⟨o, k e (by simp) _ he⟩, hi.at fun o q => k it (by simp) o q, hne⟩
  item := by
    intro X hP hw hK hc i pins s σ H E I hf st hg
    subst hP hw hK
    obtain ⟨⟨old, he⟩, hit, hne, hna⟩ := st
    obtain ⟨xs, x, hq, hx⟩ := hg
    obtain ⟨its, rv, p, hz⟩ := I.list hq
    obtain ⟨u, hu, ru⟩ := rv.get hx
    have hel : e < s.heap.objs.size := Heap.lt_size he
    have hil : it < s.heap.objs.size := by
      obtain ⟨_, q, _⟩ := hit
      exact Heap.lt_size q
    have hea : e ∉ [it, a] := by
      intro hm
      rcases List.mem_cons.mp hm with z | z
      · exact hne z
      · have z := List.mem_singleton.mp z
        obtain ⟨o, m, q, _⟩ := p.isList
        rw [← z, he] at m
        cases m
        have q : Value.type "enumerate" = Value.type "list" := q
        exact absurd q (by decide)
    have hlt : i < its.toArray.size := by
      have := (List.getElem?_eq_some_iff.mp hu).1
      simpa using this
    refine wpAny_pyNext_enum_itemC (Draws.list (A := X.A.in1) (I.ok.hd hc) it a hna its.toArray) he ⟨hit, p.isList⟩ hlt hne hea fun x' h' tk hx' ho hst' hT hsz hk => ?_
    have ex : x' = u := by
      have : its.toArray[i]? = some u := by simpa using hu
      exact Option.some.inj (hx'.symm.trans this)
    subst ex
    refine ⟨_, rfl, wpAny_letOwnedTupleGo_enum (s := { s with heap := h', toks := tk + 1 }) ho fun h2 he2 sb => ?_⟩
    have hT2 : h2.get? s.heap.objs.size = some { cls := .type "tuple", data := .seq #[.int (c + (i : Nat)) tk, x'] } := (sb.2 _ (Nat.ne_of_gt hel)).trans hT
    have new : ObjOk X.prog X.w (upd H s.heap.objs.size (.tup [.int (c + (i : Nat)), x])) h2 s.heap.objs.size (.tup [.int (c + (i : Nat)), x]) :=
      ⟨by show 2 ≤ sizeLine; decide, [.int (c + (i : Nat)) tk, x'], .cons ⟨_, rfl⟩ (.cons ru .nil), ⟨_, hT2, rfl, _, rfl⟩⟩
    have I1 : Inv X pins σ (upd H s.heap.objs.size (.tup [.int (c + (i : Nat)), x])) { s with heap := h2, toks := tk + 1 } :=
      I.turnedNew (ch := [e, it]) (fun b ob hb q => (sb.2 b (fun z => hb (by simp [z]))).trans (hk b ob (fun z => hb (by simp [z])) (fun z => hb (by simp [z])) q)) hf (Nat.le_refl _) new
    refine ⟨.ref s.heap.objs.size, _, I1, rfl, ⟨_, x, rfl, I.hok.fresh (Nat.le_refl _), rfl, fun ys hy => by rw [I.list_inj hy hq]; exact hx⟩, ⟨⟨x', ?_⟩, hst'.1.at fun o q => (sb.2 it (Ne.symm hne)).trans q, hne, hna⟩, fun b hb => ?_⟩
    · rw [show c + ((i + 1 : Nat) : Int) = c + (i : Nat) + 1 by omega]
      exact he2
    · have hb' : b < s.heap.objs.size := by
        rcases (show b = e ∨ b = it by simpa using hb) with z | z
        · rw [z]; exact hel
        · rw [z]; exact hil
      rw [upd_ne (Nat.ne_of_lt hb')]
      exact (hf b hb).1
  done := by
    intro X hP hw hK hc i pins s σ H E I hf st hg
    subst hP hw hK
    obtain ⟨⟨old, he⟩, hit, hne, hna⟩ := st
    obtain ⟨xs, hq, hx⟩ := hg
    obtain ⟨its, rv, p, hz⟩ := I.list hq
    obtain ⟨f0, f1, f2, f3, f4, f5⟩ := hf it (by simp)
    have hl := rv.length
    have D : Draws X.prog X.w X.A.in1 it [it, a] i (fun _ _ => True) (fun j h => (h.IsListIter it a j ∧ h.IsList a its.toArray) ∧ j = i) :=
      { live := fun _ _ st => let ⟨o, ho, _⟩ := st.1.1; ⟨o, ho⟩
        frame := fun _ _ _ st hk => ⟨⟨st.1.1.at fun o e => hk it (by simp) o e, st.1.2.at fun o e => hk a (by simp) o e⟩, st.2⟩
        item := fun j _ _ _ hj st _ => absurd st.2 (by omega)
        done := fun s Q E st hE => wpAny_nextOf_list_end (I.ok.hd hc) st.1.1 st.1.2 (by simp; omega) hE }
    exact wpAny_pyNext_enum_endD D he ⟨⟨hit, p.isList⟩, rfl⟩ fun h' eb => ⟨rfl, I.turned (t' := s.toks) (fun b o hb q => eb b o hb q) f0 f1 f3 f4 f5⟩
  self := fun A i s Q E st h => by
    obtain ⟨⟨_, he⟩, _⟩ := st
    exact wpAny_pyIter_enum he h
/-- for .. in enumerate(xs, start=c) -/
def iEnumS (K : PySem.W.Frag) (c : Int) (ta : TA) : TI := fun σ H R => ta σ H fun vs H1 => ∃ a xs, vs = [.ref a] ∧ SqL K H1 a xs ∧ R (Ites K a c) H1
theorem pi_enumS {e : Expr} {ta : TA} {p pos tpos kp cp : Pos} {elts : List Expr} {kk j : Nat} {c : Int} (hg : Gl X "enumerate") (hm : X.mg "enumerate" = none) (ha : PA X [e] ta) (c0 : -(2 ^ 63) ≤ c) (c1 : c < 2 ^ 63) (hs : starEach [e] X.env = [(false, eval e X.env)] := by rfl) :
    PI X (.Tuple elts kk tpos) (.Call (.Name "enumerate" p) [e] [⟨some (Str.ofString "start"), .Constant (.int c) j cp, kp⟩] pos) (iEnumS X.K c ta) := by
  refine ⟨fun pins s σ H R I h => ?_⟩
  show wpAny _ _ (eval (.Name "enumerate" p) X.env >>= _) _ _ _
  refine wpAny_bind (ld_blt I hg hm boot_enumerate (callWith_typeK (thn (ha.run pos pins s σ H _ I h) fun us s1 ⟨vs, H1, I1, r1, q1⟩ => kws_cons (wpAny_Constant_int (kws_nil ?_))) ?_ ?_ ?_ ?_))
  · obtain ⟨a, xs, ex, hq, q⟩ := q1
    subst ex
    cases r1 with
    | cons r rr =>
      cases rr
      cases r
      obtain ⟨its, rv, p', hz⟩ := I1.list hq
      show wpAny _ _ (call (.type "enumerate") [.ref a] [(Str.ofString "start", .int c s1.toks)]) _ _ _
      refine enum_begins_start (s := { s1 with toks := s1.toks + 1 }) (begins_list a its.toArray) p'.isList c0 c1 fun h' he hit hsz hk => wpAny_pyIter_enum he ?_
      have I2 : Inv X pins σ H1 { s1 with heap := h', toks := s1.toks + 1 } := I1.kept (t' := s1.toks + 1) hk
      have hal : a < s1.heap.objs.size := by
        obtain ⟨o, m, _⟩ := p'.isList
        exact Heap.lt_size m
      refine ⟨s1.heap.objs.size + 1, [s1.heap.objs.size + 1, s1.heap.objs.size], _, _, H1, rfl, I2, turn_enumS a (s1.heap.objs.size + 1) s1.heap.objs.size c, ⟨⟨.none, by simpa using he⟩, ⟨_, hit, rfl, rfl⟩, Nat.succ_ne_self _, Nat.ne_of_lt hal⟩, fun b hb => ?_, q⟩
      have hle : s1.heap.objs.size ≤ b := by
        rcases (show b = s1.heap.objs.size + 1 ∨ b = s1.heap.objs.size by simpa using hb) with z | z
        · rw [z]; exact Nat.le_add_right _ _
        · rw [z]; exact Nat.le_refl _
      exact I1.fpOk hle (I1.hok.fresh hle)
  · rw [hs]
    rfl
  · rw [hs]
    rfl
  all_goals rfl
end
end Far

namespace Far
open PySem PySem.Spec PyProof.Rows L2
section
variable {X : Cx}
/-- name = {k: v for ..} on one line, the name a local one -/
theorem ps_setDc {i : Nat} {y : Str} {py spos pos : Pos} {kx vx tg iter : Expr} {ifs : List Expr} {scope : Scope} {own : List (Str × Nat)} {wi : TI} {g : TG} {tt : TT} {tk tv : TE}
    (hc : X.calm = true) (hN : X.N.Nodup) (hy : X.N[i]? = some y) (hyl : X.env.scope.names.lookup y = some .local) (hsw : swapsWith (.DictComp kx vx [⟨tg, iter, ifs, 0⟩] scope pos) (some (.Name y py)) spos.line X.env = pure true)
    (hi : PI X tg iter wi) (ok : BlkOk X.N X.env.scope scope own)
    (hg : ∀ (s : Shared) (H : Hp) (C : Addr) (l : List (Str × Addr)) (fp : List Addr), PG (X.blk s H scope (compEnvC scope l C X.env) fp) tg g)
    (ht : ∀ (s : Shared) (H : Hp) (C : Addr) (l : List (Str × Addr)) (fp : List Addr), PTs (X.blk s H scope (compEnvC scope l C X.env) fp) ifs tt)
    (hk : ∀ (s : Shared) (H : Hp) (C : Addr) (l : List (Str × Addr)) (fp : List Addr), PE (X.blk s H scope (compEnvC scope l C X.env) fp) kx tk)
    (hv : ∀ (s : Shared) (H : Hp) (C : Addr) (l : List (Str × Addr)) (fp : List Addr), PE (X.blk s H scope (compEnvC scope l C X.env) fp) vx tv)
    (hs : ∀ x, foldedSetIterable iter X.env x = pure x := by intro _; rfl) : PS X (.Assign [.Name y py] (.DictComp kx vx [⟨tg, iter, ifs, 0⟩] scope pos) spos) (tAsg (tDc wi g tt tk tv (own.map (·.2))) (gName i)) := by
  refine ⟨fun pins s σ H D I h => ?_⟩
  replace h : tDc wi g tt tk tv (own.map (·.2)) σ H (fun v H1 => gName i v σ H1 D.nx) := h
  rw [exec_Assign_Name_used _ _ _ _ hsw]
  refine wpAny_bind (wpAny_standAt (wpAny_bind ?_))
  show wpAny _ X.A (do let _ ← comprehension (.DictComp kx vx [⟨tg, iter, ifs, 0⟩] scope pos) scope X.env (firstIterPos [⟨tg, iter, ifs, 0⟩] pos) newDict false (eval iter X.env) (some (assign (.Name y py) X.env))) _ _ s
  refine wpAny_bind (thn (dc_core (Qf := fun _ s1 => SP X pins D .next s1) hc hN I hi ok hg ht hk hv hs h fun L C s1 m H1 I1 q hn f => ?_) fun _ s1 z => wpAny_pure (wpAny_pure z))
  show wpAny _ _ (assign (.Name y py) X.env (.ref L)) _ _ _
  obtain ⟨f0, f1, f2, f3, f4, f5⟩ := f
  refine wpAny_assign_Name (store_ok2 (v := V.ref L) I1 hN hy (.inl hyl) rfl (fun s2 I2 ⟨a, sb, ha⟩ => ⟨m, hn.sameBut sb ?_, fun h3 sb3 => ?_⟩) (.inr hyl))
  · rcases ha with z | z
    · exact z ▸ f1
    · exact fun e => f4 y a z e.symm
  · exact ⟨_, H1, I2.turned (t' := s2.toks) (fun b o hb e => (sb3.2 b hb).trans e) f0 f1 f3 f4 f5, q⟩
theorem swD_true {kx vx : Expr} {gs : List Comprehension} {scope : Scope} {pos py : Pos} {y : Str} {l : Nat} {env : Env} (hk : env.scope.kind = .function) (hy : env.scope.names.lookup y = some .local) (hl : (py.line == pos.line) = true)
    (ha : (scope.names.any fun (n, k) => n == y && (k == .local || k == .cell)) = false) : swapsWith (.DictComp kx vx gs scope pos) (some (.Name y py)) l env = pure true := by
  have e1 : env.kindOf y = some .local := hy
  have e2 : env.blockKind = .function := by unfold Env.blockKind; rw [hk]; rfl
  unfold swapsWith
  simp only [e2, e1, ha, Expr.pos, hl]
  rfl
end
end Far

namespace Far
open PySem
open SX (S)
/-! ### ways in a tree -/
def Adj (ts : List Tie) (u v : Nm) (k : Int) : Prop := (u, v, k) ∈ ts ∨ (v, u, k) ∈ ts
theorem Adj.symm {ts : List Tie} {u v : Nm} {k : Int} (h : Adj ts u v k) : Adj ts v u k := h.elim .inr .inl
theorem Adj.perm {ts ts' : List Tie} {u v : Nm} {k : Int} (p : ts.Perm ts') (h : Adj ts u v k) : Adj ts' u v k := h.elim (fun h => .inl (p.mem_iff.mp h)) fun h => .inr (p.mem_iff.mp h)
/-- from u to v, no place twice: the places, the length -/
inductive Way (ts : List Tie) (u : Nm) : Nm → List Nm → Int → Prop
  | nil : Way ts u u [u] 0
  | snoc {v w : Nm} {p : List Nm} {L k : Int} : Way ts u v p L → Adj ts v w k → w ∉ p → Way ts u w (p ++ [w]) (L + k)
theorem Way.perm {ts ts' : List Tie} (q : ts.Perm ts') {u v : Nm} {p : List Nm} {L : Int} (h : Way ts u v p L) : Way ts' u v p L := by
  induction h with
  | nil => exact .nil
  | snoc _ ha hn ih => exact .snoc ih (ha.perm q) hn
theorem Way.last {ts : List Tie} {u v : Nm} {p : List Nm} {L : Int} (h : Way ts u v p L) : ∃ q, p = q ++ [v] := by
  cases h with
  | nil => exact ⟨[], rfl⟩
  | snoc _ _ _ => exact ⟨_, rfl⟩
theorem Way.mem {ts : List Tie} {u v : Nm} {p : List Nm} {L : Int} (h : Way ts u v p L) : v ∈ p := by
  obtain ⟨q, rfl⟩ := h.last
  simp
theorem Way.first {ts : List Tie} {u v : Nm} {p : List Nm} {L : Int} (h : Way ts u v p L) : ∃ q, p = u :: q := by
  induction h with
  | nil => exact ⟨[], rfl⟩
  | snoc _ _ _ ih =>
    obtain ⟨q, rfl⟩ := ih
    exact ⟨q ++ [_], rfl⟩
theorem Way.nodup {ts : List Tie} {u v : Nm} {p : List Nm} {L : Int} (h : Way ts u v p L) : p.Nodup := by
  induction h with
  | nil => simp
  | snoc _ _ hn ih => exact nd_snoc' ih hn
theorem Way.inside {ts : List Tie} {pl : List Nm} (ht : ∀ e ∈ ts, e.1 ∈ pl ∧ e.2.1 ∈ pl) {u v : Nm} {p : List Nm} {L : Int} (h : Way ts u v p L) (hu : u ∈ pl) : ∀ x ∈ p, x ∈ pl := by
  induction h with
  | nil =>
    intro x hx
    rw [List.mem_singleton.mp hx]
    exact hu
  | snoc _ ha _ ih =>
    intro x hx
    rcases List.mem_append.mp hx with z | z
    · exact ih x z
    · rw [List.mem_singleton.mp z]
      rcases ha with h | h
      · exact (ht _ h).2
      · exact (ht _ h).1
/-- a place on the way is come to by a way of its own -/
theorem Way.upto {ts : List Tie} {u v x : Nm} {p : List Nm} {L : Int} (h : Way ts u v p L) (hx : x ∈ p) : ∃ q M, Way ts u x q M ∧ ∀ y ∈ q, y ∈ p := by
  induction h with
  | nil =>
    rw [List.mem_singleton.mp hx]
    exact ⟨_, _, .nil, fun _ h => h⟩
  | snoc h1 ha hn ih =>
    rcases List.mem_append.mp hx with z | z
    · obtain ⟨q, M, hq, hs⟩ := ih z
      exact ⟨q, M, hq, fun y hy => List.mem_append_left _ (hs y hy)⟩
    · rw [List.mem_singleton.mp z]
      exact ⟨_, _, .snoc h1 ha hn, fun _ h => h⟩
section leaf
variable {os : List Nm} {es : List Tie} {a b : Nm} {k : Int} {e0 : Tie}
theorem adj_new (hb : ∀ e ∈ es, e.1 ≠ b ∧ e.2.1 ≠ b) (ab : a ≠ b) (he : e0 = (a, b, k) ∨ e0 = (b, a, k)) {x y : Nm} {m : Int} (h : Adj (es ++ [e0]) x y m) :
    (Adj es x y m ∧ x ≠ b ∧ y ≠ b) ∨ (x = a ∧ y = b ∧ m = k) ∨ (x = b ∧ y = a ∧ m = k) := by
  rcases h with h | h <;> rcases List.mem_append.mp h with z | z
  · exact .inl ⟨.inl z, hb _ z⟩
  · have z := List.mem_singleton.mp z
    rcases he with e | e <;> rw [e] at z <;> cases z
    · exact .inr (.inl ⟨rfl, rfl, rfl⟩)
    · exact .inr (.inr ⟨rfl, rfl, rfl⟩)
  · exact .inl ⟨.inr z, (hb _ z).2, (hb _ z).1⟩
  · have z := List.mem_singleton.mp z
    rcases he with e | e <;> rw [e] at z <;> cases z
    · exact .inr (.inr ⟨rfl, rfl, rfl⟩)
    · exact .inr (.inl ⟨rfl, rfl, rfl⟩)
theorem way_old (hb : ∀ e ∈ es, e.1 ≠ b ∧ e.2.1 ≠ b) (ab : a ≠ b) (he : e0 = (a, b, k) ∨ e0 = (b, a, k)) {u v : Nm} {p : List Nm} {L : Int} (h : Way (es ++ [e0]) u v p L) (hu : u ≠ b) :
    (v ≠ b ∧ b ∉ p ∧ Way es u v p L) ∨ (v = b ∧ ∃ q M, p = q ++ [b] ∧ L = M + k ∧ Way es u a q M) := by
  induction h with
  | nil => exact .inl ⟨hu, fun z => hu (List.mem_singleton.mp z).symm, .nil⟩
  | @snoc v w p L m h1 ha hn ih =>
    rcases ih with ⟨hv, hbp, hw⟩ | ⟨hv, q, M, hp, _, hq⟩
    · rcases adj_new hb ab he ha with ⟨ha, _, wb⟩ | ⟨e1, e2, e3⟩ | ⟨e1, _, _⟩
      · refine .inl ⟨wb, fun z => ?_, .snoc hw ha hn⟩
        rcases List.mem_append.mp z with z | z
        · exact hbp z
        · exact wb (List.mem_singleton.mp z).symm
      · subst e1 e2 e3
        exact .inr ⟨rfl, p, L, rfl, rfl, hw⟩
      · exact absurd e1 hv
    · rcases adj_new hb ab he ha with ⟨_, vb, _⟩ | ⟨e1, _, _⟩ | ⟨_, e2, _⟩
      · exact absurd hv vb
      · exact absurd (e1.symm.trans hv) ab
      · refine absurd ?_ hn
        rw [e2, hp]
        exact List.mem_append_left _ hq.mem
theorem way_from (hb : ∀ e ∈ es, e.1 ≠ b ∧ e.2.1 ≠ b) (ab : a ≠ b) (he : e0 = (a, b, k) ∨ e0 = (b, a, k)) {v : Nm} {p : List Nm} {L : Int} (h : Way (es ++ [e0]) b v p L) :
    (v = b ∧ p = [b] ∧ L = 0) ∨ (v ≠ b ∧ ∃ q M, p = b :: q ∧ L = k + M ∧ Way es a v q M) := by
  induction h with
  | nil => exact .inl ⟨rfl, rfl, rfl⟩
  | @snoc v w p L m h1 ha hn ih =>
    rcases ih with ⟨hv, hp, hL⟩ | ⟨hv, q, M, hp, hL, hq⟩
    · rcases adj_new hb ab he ha with ⟨_, vb, _⟩ | ⟨e1, _, _⟩ | ⟨_, e2, e3⟩
      · exact absurd hv vb
      · exact absurd (e1.symm.trans hv) ab
      · subst e2 e3 hp hL
        exact .inr ⟨ab, [w], 0, rfl, by omega, .nil⟩
    · have wb : w ≠ b := fun z => hn (by rw [z, hp]; simp)
      rcases adj_new hb ab he ha with ⟨ha, _, _⟩ | ⟨_, e2, _⟩ | ⟨e1, _, _⟩
      · subst hp hL
        exact .inr ⟨wb, q ++ [w], M + m, rfl, by omega, .snoc hq ha fun z => hn (List.mem_cons.mpr (.inr z))⟩
      · exact absurd e2 wb
      · exact absurd e1 hv
end leaf
theorem Grown.one_way {os : List Nm} {es : List Tie} (g : Grown os es) : ∀ {u v : Nm} {p q : List Nm} {L M : Int}, Way es u v p L → Way es u v q M → p = q ∧ L = M := by
  induction g with
  | one a =>
    intro u v p q L M h1 h2
    cases h1 with
    | nil =>
      cases h2 with
      | nil => exact ⟨rfl, rfl⟩
      | snoc _ ha _ => rcases ha with h | h <;> cases h
    | snoc _ ha _ => rcases ha with h | h <;> cases h
  | @leaf os es a b k e0 g ha hbn he k1 k2 ih =>
    intro u v p q L M h1 h2
    have hb : ∀ e ∈ es, e.1 ≠ b ∧ e.2.1 ≠ b := fun e hm => by
      obtain ⟨i1, i2, _⟩ := g.ties e hm
      exact ⟨fun z => hbn (z ▸ i1), fun z => hbn (z ▸ i2)⟩
    have ab : a ≠ b := fun z => hbn (z ▸ ha)
    by_cases hu : u = b
    · subst hu
      rcases way_from hb ab he h1 with ⟨v1, p1, l1⟩ | ⟨v1, p1, l1, e1, e2, w1⟩ <;> rcases way_from hb ab he h2 with ⟨v2, p2, l2⟩ | ⟨v2, p2, l2, e3, e4, w2⟩
      · exact ⟨p1.trans p2.symm, l1.trans l2.symm⟩
      · exact absurd v1 v2
      · exact absurd v2 v1
      · obtain ⟨z1, z2⟩ := ih w1 w2
        rw [e1, e2, e3, e4, z1, z2]
        exact ⟨rfl, rfl⟩
    · rcases way_old hb ab he h1 hu with ⟨v1, _, w1⟩ | ⟨v1, p1, l1, e1, e2, w1⟩ <;> rcases way_old hb ab he h2 hu with ⟨v2, _, w2⟩ | ⟨v2, p2, l2, e3, e4, w2⟩
      · exact ih w1 w2
      · exact absurd v2 v1
      · exact absurd v1 v2
      · obtain ⟨z1, z2⟩ := ih w1 w2
        rw [e1, e2, e3, e4, z1, z2]
        exact ⟨rfl, rfl⟩
theorem IsTree.one_way {pl : List Nm} {ts : List Tie} (h : IsTree pl ts) {u v : Nm} {p q : List Nm} {L M : Int} (h1 : Way ts u v p L) (h2 : Way ts u v q M) : p = q ∧ L = M := by
  obtain ⟨os, es, g, _, p2⟩ := h
  exact g.one_way (h1.perm p2) (h2.perm p2)
/-- what is closed by ties and holds one place holds all -/
theorem Grown.all_of {os : List Nm} {es : List Tie} (g : Grown os es) : ∀ {F : Nm → Prop}, (∃ u ∈ os, F u) → (∀ x y k, F x → Adj es x y k → F y) → ∀ v ∈ os, F v := by
  induction g with
  | one a =>
    intro F ⟨u, hu, hF⟩ _ v hv
    rw [List.mem_singleton.mp hv, ← List.mem_singleton.mp hu]
    exact hF
  | @leaf os es a b k e0 g ha hbn he k1 k2 ih =>
    intro F ⟨u, hu, hF⟩ cl v hv
    have cab : Adj (es ++ [e0]) a b k := by
      rcases he with e | e
      · exact .inl (by rw [e]; simp)
      · exact .inr (by rw [e]; simp)
    have cl' : ∀ x y m, F x → Adj es x y m → F y := fun x y m hx h => cl x y m hx (h.elim (fun z => .inl (List.mem_append_left _ z)) fun z => .inr (List.mem_append_left _ z))
    have start : ∃ w ∈ os, F w := by
      rcases List.mem_append.mp hu with z | z
      · exact ⟨u, z, hF⟩
      · rw [List.mem_singleton.mp z] at hF
        exact ⟨a, ha, cl b a k hF cab.symm⟩
    have old := ih start cl'
    rcases List.mem_append.mp hv with z | z
    · exact old v z
    · rw [List.mem_singleton.mp z]
      exact cl a b k (old a ha) cab
theorem IsTree.all_of {pl : List Nm} {ts : List Tie} (h : IsTree pl ts) {F : Nm → Prop} {u : Nm} (hu : u ∈ pl) (hF : F u) (cl : ∀ x y k, F x → Adj ts x y k → F y) : ∀ v ∈ pl, F v := by
  obtain ⟨os, es, g, p1, p2⟩ := h
  intro v hv
  exact g.all_of ⟨u, p1.mem_iff.mp hu, hF⟩ (fun x y k hx ha => cl x y k hx (ha.perm p2.symm)) v (p1.mem_iff.mp hv)
theorem IsTree.way {pl : List Nm} {ts : List Tie} (h : IsTree pl ts) {u v : Nm} (hu : u ∈ pl) (hv : v ∈ pl) : ∃ p L, Way ts u v p L := by
  refine h.all_of (F := fun v => ∃ p L, Way ts u v p L) hu ⟨_, _, .nil⟩ (fun x y k ⟨p, L, hw⟩ ha => ?_) v hv
  by_cases hy : y ∈ p
  · obtain ⟨q, M, hq, _⟩ := hw.upto hy
    exact ⟨q, M, hq⟩
  · exact ⟨_, _, .snoc hw ha hy⟩
open Classical in
/-- the way and its length -/
noncomputable def wayOf (ts : List Tie) (u v : Nm) : List Nm × Int := if h : ∃ x : List Nm × Int, Way ts u v x.1 x.2 then h.choose else ([], 0)
noncomputable def path (ts : List Tie) (u v : Nm) : List Nm := (wayOf ts u v).1
noncomputable def dist (ts : List Tie) (u v : Nm) : Int := (wayOf ts u v).2
theorem IsTree.is_way {pl : List Nm} {ts : List Tie} (h : IsTree pl ts) {u v : Nm} {p : List Nm} {L : Int} (w : Way ts u v p L) : path ts u v = p ∧ dist ts u v = L := by
  have hx : ∃ x : List Nm × Int, Way ts u v x.1 x.2 := ⟨(p, L), w⟩
  unfold path dist wayOf
  rw [dif_pos hx]
  exact h.one_way hx.choose_spec w
theorem IsTree.the_way {pl : List Nm} {ts : List Tie} (h : IsTree pl ts) {u v : Nm} (hu : u ∈ pl) (hv : v ∈ pl) : Way ts u v (path ts u v) (dist ts u v) := by
  obtain ⟨p, L, w⟩ := h.way hu hv
  obtain ⟨e1, e2⟩ := h.is_way w
  rw [e1, e2]
  exact w
/-- the way back -/
theorem Way.cons {ts : List Tie} {u v w : Nm} {p : List Nm} {L k : Int} (ha : Adj ts w u k) (h : Way ts u v p L) (hn : w ∉ p) : Way ts w v (w :: p) (k + L) := by
  induction h with
  | nil =>
    have := Way.snoc (ts := ts) (u := w) .nil ha (by simpa using fun z => hn (by rw [z]; simp))
    simpa using this
  | @snoc v x p L m h1 hb hx ih =>
    have hn1 : w ∉ p := fun z => hn (List.mem_append_left _ z)
    have hxw : x ∉ w :: p := fun z => by
      rcases List.mem_cons.mp z with z | z
      · exact hn (by rw [z]; simp)
      · exact hx z
    have := Way.snoc (ih hn1) hb hxw
    rw [← Int.add_assoc]
    exact this
theorem Way.rev {ts : List Tie} {u v : Nm} {p : List Nm} {L : Int} (h : Way ts u v p L) : Way ts v u p.reverse L := by
  induction h with
  | nil => exact .nil
  | @snoc v w p L k h1 ha hn ih =>
    rw [List.reverse_append]
    have := Way.cons ha.symm ih (fun z => hn (List.mem_reverse.mp z))
    rw [Int.add_comm L k]
    exact this
theorem IsTree.dist_symm {pl : List Nm} {ts : List Tie} (h : IsTree pl ts) {u v : Nm} (hu : u ∈ pl) (hv : v ∈ pl) : dist ts u v = dist ts v u ∧ path ts v u = (path ts u v).reverse := by
  obtain ⟨e1, e2⟩ := h.is_way (h.the_way hu hv).rev
  exact ⟨e2.symm, e1⟩
theorem IsTree.dist_self {pl : List Nm} {ts : List Tie} (h : IsTree pl ts) (u : Nm) : dist ts u u = 0 ∧ path ts u u = [u] := by
  obtain ⟨e1, e2⟩ := h.is_way (u := u) .nil
  exact ⟨e2, e1⟩
theorem Way.nonneg {ts : List Tie} (hk : ∀ e ∈ ts, 1 ≤ e.2.2) {u v : Nm} {p : List Nm} {L : Int} (h : Way ts u v p L) : 0 ≤ L ∧ (p.length : Int) ≤ L + 1 := by
  induction h with
  | nil => simp
  | @snoc v w p L k _ ha _ ih =>
    have h1 : 1 ≤ k := ha.elim (fun z => hk _ z) fun z => hk _ z
    rw [List.length_append, List.length_singleton]
    omega
section
open PySem.Spec PyProof.Rows L2
/-! ### dicts by places -/
def dkm (fs : List Nm) (f : Nm → V) : List (Key × V) := fs.map fun l => (Sum.inr (S l), f l)
theorem dkm_get {f : Nm → V} {x : Nm} : ∀ {fs : List Nm}, x ∈ fs → valV (dkm fs f) (Sum.inr (S x)) = some (f x)
  | [], h => by simp at h
  | a :: r, h => by
    show valV ((Sum.inr (S a), f a) :: dkm r f) _ = _
    by_cases e : a = x
    · subst e
      exact valV_pos rfl
    · rw [valV_neg (fun z => e (SX.S_inj (Sum.inr.inj z)))]
      refine dkm_get ?_
      rcases List.mem_cons.mp h with z | z
      · exact absurd z.symm e
      · exact z
theorem dkm_no {f : Nm → V} {x : Nm} : ∀ {fs : List Nm}, x ∉ fs → valV (dkm fs f) (Sum.inr (S x)) = none
  | [], _ => rfl
  | a :: r, h => by
    show valV ((Sum.inr (S a), f a) :: dkm r f) _ = _
    rw [valV_neg (fun z => h (List.mem_cons.mpr (.inl (SX.S_inj (Sum.inr.inj z)).symm)))]
    exact dkm_no fun z => h (List.mem_cons.mpr (.inr z))
theorem dkm_cong {f g : Nm → V} {fs : List Nm} (h : ∀ x ∈ fs, f x = g x) : dkm fs f = dkm fs g := List.map_congr_left fun a ha => by rw [h a ha]
theorem dkm_new {f : Nm → V} {x : Nm} {v : V} {fs : List Nm} (h : x ∉ fs) : putK (dkm fs f) (Sum.inr (S x)) v = dkm (fs ++ [x]) (fun z => if z = x then v else f z) := by
  rw [putK_new _ (dkm_no h)]
  unfold dkm
  rw [List.map_append]
  have e : fs.map (fun l => ((Sum.inr (S l) : Key), f l)) = fs.map (fun l => ((Sum.inr (S l) : Key), if l = x then v else f l)) := List.map_congr_left fun a ha => by rw [if_neg (fun (z : a = x) => h (z ▸ ha))]
  rw [e]
  show _ = _ ++ [((Sum.inr (S x) : Key), if x = x then v else f x)]
  rw [if_pos rfl]
theorem dkm_some {f : Nm → V} {x : Nm} {fs : List Nm} : (valV (dkm fs f) (Sum.inr (S x))).isSome = decide (x ∈ fs) := by
  by_cases h : x ∈ fs
  · rw [dkm_get h, decide_eq_true h]
    rfl
  · rw [dkm_no h, decide_eq_false h]
    rfl
theorem tkD {H : Hp} {D : Addr} {kvs : List (Key × V)} {o : HO} (h : H D = some (.dK kvs)) : TK H (upd H D o) :=
  ⟨fun b xs z => by rw [upd_ne (ne_of z h (by intro q; cases q))]; exact z, fun b u xs z => by rw [upd_ne (ne_of z h (by intro q; cases q))]; exact z⟩
/-! ### a walk through a tree: fs come to, st to be gone on from, ex being gone on from -/
structure Wk (pl : List Nm) (ts : List Tie) (u : Nm) (fs st : List Nm) (prev : Nm → Nm) (ex : Nm → Prop) : Prop where
  nd : fs.Nodup
  sub : ∀ x ∈ fs, x ∈ pl
  sti : ∀ x ∈ st, x ∈ fs
  hu : u ∈ fs
  cl : ∀ x ∈ fs, ∀ y ∈ path ts u x, y ∈ fs
  pr : ∀ x ∈ fs, x ≠ u → prev x ∈ fs ∧ path ts u x = path ts u (prev x) ++ [x]
  done : ∀ x ∈ fs, x ∉ st → ¬ ex x → ∀ y k, Adj ts x y k → y ∈ fs
theorem Wk.start {pl : List Nm} {ts : List Tie} (h : IsTree pl ts) {u : Nm} (hu : u ∈ pl) : Wk pl ts u [u] [u] (fun _ => u) (fun _ => False) := by
  refine ⟨by simp, fun x hx => ?_, fun x hx => hx, by simp, fun x hx => ?_, fun x hx n => ?_, fun x hx n => absurd hx n⟩
  · rw [List.mem_singleton.mp hx]
    exact hu
  · rw [List.mem_singleton.mp hx, (h.dist_self u).2]
    exact fun y hy => hy
  · exact absurd (List.mem_singleton.mp hx) n
theorem Wk.pop {pl : List Nm} {ts : List Tie} {u h : Nm} {fs st : List Nm} {prev : Nm → Nm} (w : Wk pl ts u fs (st ++ [h]) prev (fun _ => False)) : h ∈ fs ∧ Wk pl ts u fs st prev (fun x => x = h) := by
  refine ⟨w.sti h (by simp), w.nd, w.sub, fun x hx => w.sti x (List.mem_append_left _ hx), w.hu, w.cl, w.pr, fun x hx n ne => w.done x hx (fun z => ?_) (fun z => z)⟩
  rcases List.mem_append.mp z with z | z
  · exact n z
  · exact ne (List.mem_singleton.mp z)
theorem Wk.push {pl : List Nm} {ts : List Tie} (tr : IsTree pl ts) {u h y : Nm} {k : Int} {fs st : List Nm} {prev : Nm → Nm} {ex : Nm → Prop} (w : Wk pl ts u fs st prev ex) (hh : h ∈ fs) (ha : Adj ts h y k) (hy : y ∉ fs) :
    dist ts u y = dist ts u h + k ∧ Wk pl ts u (fs ++ [y]) (st ++ [y]) (fun z => if z = y then h else prev z) ex := by
  have wh := tr.the_way (w.sub u w.hu) (w.sub h hh)
  have wy := Way.snoc wh ha fun z => hy (w.cl h hh y z)
  obtain ⟨e1, e2⟩ := tr.is_way wy
  have yp : y ∈ pl := by
    rcases ha with z | z
    · exact (tr.ties _ z).2.1
    · exact (tr.ties _ z).1
  refine ⟨e2, nd_snoc' w.nd hy, fun x hx => ?_, fun x hx => ?_, List.mem_append_left _ w.hu, fun x hx z hz => ?_, fun x hx n => ?_, fun x hx n ne z m hz => ?_⟩
  · rcases List.mem_append.mp hx with z | z
    · exact w.sub x z
    · rw [List.mem_singleton.mp z]
      exact yp
  · rcases List.mem_append.mp hx with z | z
    · exact List.mem_append_left _ (w.sti x z)
    · exact List.mem_append_right _ z
  · rcases List.mem_append.mp hx with q | q
    · exact List.mem_append_left _ (w.cl x q z hz)
    · rw [List.mem_singleton.mp q, e1] at hz
      rcases List.mem_append.mp hz with r | r
      · exact List.mem_append_left _ (w.cl h hh z r)
      · exact List.mem_append_right _ r
  · rcases List.mem_append.mp hx with q | q
    · have xy : x ≠ y := fun e => hy (e ▸ q)
      show (if x = y then h else prev x) ∈ fs ++ [y] ∧ path ts u x = path ts u (if x = y then h else prev x) ++ [x]
      rw [if_neg xy]
      exact ⟨List.mem_append_left _ (w.pr x q n).1, (w.pr x q n).2⟩
    · have xy := List.mem_singleton.mp q
      show (if x = y then h else prev x) ∈ fs ++ [y] ∧ path ts u x = path ts u (if x = y then h else prev x) ++ [x]
      rw [if_pos xy, xy]
      exact ⟨List.mem_append_left _ hh, e1⟩
  · rcases List.mem_append.mp hx with q | q
    · exact List.mem_append_left _ (w.done x q (fun r => n (List.mem_append_left _ r)) ne z m hz)
    · exact absurd (List.mem_append_right _ q) n
theorem Wk.shut {pl : List Nm} {ts : List Tie} {u h : Nm} {fs st : List Nm} {prev : Nm → Nm} (w : Wk pl ts u fs st prev (fun x => x = h)) (hd : ∀ y k, Adj ts h y k → y ∈ fs) : Wk pl ts u fs st prev (fun _ => False) :=
  ⟨w.nd, w.sub, w.sti, w.hu, w.cl, w.pr, fun x hx n _ y k ha => by
    by_cases e : x = h
    · rw [e] at ha
      exact hd y k ha
    · exact w.done x hx n e y k ha⟩
theorem Wk.all {pl : List Nm} {ts : List Tie} (tr : IsTree pl ts) {u : Nm} {fs : List Nm} {prev : Nm → Nm} (w : Wk pl ts u fs [] prev (fun _ => False)) : ∀ x, x ∈ fs ↔ x ∈ pl := fun x =>
  ⟨w.sub x, fun hx => tr.all_of (F := fun z => z ∈ fs) (w.sub u w.hu) w.hu (fun a b k ha hab => w.done a ha (by simp) (fun z => z) b k hab) x hx⟩
structure Fine (pl : List Nm) (ts : List Tie) : Prop where
  tree : IsTree pl ts
  ok : ∀ l ∈ pl, NameOk l
  len : pl.length ≤ 1000
theorem Fine.okT {pl : List Nm} {ts : List Tie} (F : Fine pl ts) {e : Tie} (he : e ∈ ts) : NameOk e.1 ∧ NameOk e.2.1 := by
  obtain ⟨i1, i2, _⟩ := F.tree.ties e he
  exact ⟨F.ok _ i1, F.ok _ i2⟩
theorem Fine.ne {pl : List Nm} {ts : List Tie} (F : Fine pl ts) : pl ≠ [] := fun z => by
  have := F.tree.len
  rw [z] at this
  simp at this
theorem dt_pair {H : Hp} {v : V} {d e : PyData} (h : Dt H v (.tuple [d, e])) (ne : ∀ l : Nm, e ≠ strD l) : ∃ (a : Addr) (x y : V), v = .ref a ∧ H a = some (.tup [x, y]) ∧ Dt H x d ∧ Dt H y e := by
  cases h with
  | tup ha hs =>
    cases hs with
    | cons h1 hr =>
      cases hr with
      | cons h2 hn =>
        cases hn
        exact ⟨_, _, _, rfl, ha, h1, h2⟩
  | @tupZ a pl _ o e _ _ _ =>
    exfalso
    cases pl with
    | nil => cases e
    | cons l r =>
      cases r with
      | nil => cases e
      | cons l2 r2 => exact ne l2 (List.cons.inj (List.cons.inj e).2).1
theorem dt_tup {H : Hp} {v : V} {ds : List PyData} (h : Dt H v (.tuple ds)) (ne : ds ≠ [] → ∃ d ∈ ds, ∀ l : Nm, d ≠ strD l) : ∃ (a : Addr) (xs : List V), v = .ref a ∧ H a = some (.tup xs) ∧ DtAll H xs ds := by
  cases h with
  | tup ha hs => exact ⟨_, _, rfl, ha, hs⟩
  | @tupZ a pl _ o e n _ _ =>
    exfalso
    obtain ⟨d, hd, no⟩ := ne (by rw [e]; simpa using n)
    rw [e] at hd
    obtain ⟨l, _, z⟩ := List.mem_map.mp hd
    exact no l z.symm
theorem dt_names {H : Hp} {v : V} {pl : List Nm} (h : Dt H v (.tuple (pl.map strD))) : ∃ a : Addr, v = .ref a ∧ TupAt H a ((pl.map S).map V.str) := by
  have inj : ∀ {p q : List Nm}, p.map strD = q.map strD → p = q := by
    intro p
    induction p with
    | nil =>
      intro q e
      cases q with
      | nil => rfl
      | cons _ _ => cases e
    | cons a r ih =>
      intro q e
      cases q with
      | nil => cases e
      | cons b t =>
        have e' := List.cons.inj e
        have h1 : S a = S b := PyData.str.inj e'.1
        rw [SX.S_inj h1, ih e'.2]
  generalize hd : pl.map strD = ds at h
  cases h with
  | tup ha hs =>
    subst hd
    rw [DtAll.strs hs] at ha
    exact ⟨_, rfl, .inl ha⟩
  | @tupZ a pl2 _ o e n d ha =>
    rw [← inj (hd.trans e)] at ha
    exact ⟨_, rfl, .inr ⟨o, d, ha⟩⟩
theorem tie_no (e : Tie) (l : Nm) : tieD e ≠ strD l := fun z => nomatch z
/-- a tree in the heap: its parts -/
theorem dt_tree {H : Hp} {v : V} {pl : List Nm} {ts : List Tie} (h : Dt H v (treeD pl ts)) : ∃ (t a b : Addr) (vs : List V), v = .ref t ∧ H t = some (.tup [.ref a, .ref b]) ∧ TupAt H a ((pl.map S).map V.str) ∧ H b = some (.tup vs) ∧ DtAll H vs (ts.map tieD) := by
  obtain ⟨t, x, y, rfl, ht, hx, hy⟩ := dt_pair h fun l z => nomatch z
  obtain ⟨a, rfl, ha⟩ := dt_names hx
  obtain ⟨b, vs, rfl, hb, hv⟩ := dt_tup hy fun n => by
    cases ts with
    | nil => exact absurd rfl n
    | cons e r => exact ⟨tieD e, List.mem_cons_self .., tie_no e⟩
  exact ⟨t, a, b, vs, rfl, ht, ha, hb, hv⟩
theorem dt_tie {H : Hp} {v : V} {e : Tie} (h : Dt H v (tieD e)) : ∃ t : Addr, v = .ref t ∧ H t = some (.tup [.str (S e.1), .str (S e.2.1), .int e.2.2]) := by
  obtain ⟨t, xs, rfl, ht, hs⟩ := dt_tup h fun _ => ⟨.int e.2.2, by simp [tieD], fun l z => nomatch z⟩
  cases hs with
  | cons h1 hr =>
    cases hr with
    | cons h2 hr =>
      cases hr with
      | cons h3 hr =>
        cases hr
        cases h1
        cases h2
        cases h3
        exact ⟨t, rfl, ht⟩
end
end Far

namespace Far
open PySem PySem.Spec PyProof.Rows L2
theorem same_new {H H1 : Hp} {p : Addr} {o : HO} (a : Same H H1) (n : H1 p = none) : Same H (upd H1 p o) := fun x u h => by
  rw [upd_ne (ne_of_none (a x u h) n)]
  exact a x u h
theorem same_put {H H1 : Hp} {p : Addr} {o : HO} (a : Same H H1) (n : H p = none) : Same H (upd H1 p o) := fun x u h => by
  rw [upd_ne (ne_of_none h n)]
  exact a x u h
end Far

namespace Far
open PySem PySem.Spec PyProof.Rows L2
open C8 (pss_cut tCut)
open SX (S)
structure TxtW (mg : Str → Option Value) : Prop where
  tuple : mg "tuple" = none
/-! ### the ties of each place -/
def pairD (x : Nm × Int) : PyData := .tuple [.str (S x.1), .int x.2]
theorem dt_pairD {H : Hp} {v : V} {x : Nm × Int} (h : Dt H v (pairD x)) : ∃ t : Addr, v = .ref t ∧ H t = some (.tup [.str (S x.1), .int x.2]) := by
  obtain ⟨t, a, b, rfl, ht, h1, h2⟩ := dt_pair h fun l z => nomatch z
  cases h1
  cases h2
  exact ⟨t, rfl, ht⟩
/-- at D: for each place a list of its own, of the places tied to it with the ties' lengths -/
structure BesideAt (H : Hp) (D : Addr) (pl : List Nm) (ad : Nm → Addr) (nb : Nm → List (Nm × Int)) : Prop where
  dict : H D = some (.dK (dkm pl fun l => .ref (ad l)))
  each : ∀ l ∈ pl, ∃ vs, H (ad l) = some (.lst vs) ∧ DtAll H vs ((nb l).map pairD)
  inj : ∀ l ∈ pl, ∀ m ∈ pl, ad l = ad m → l = m
def nbAdd (nb : Nm → List (Nm × Int)) (a : Nm) (x : Nm × Int) : Nm → List (Nm × Int) := fun l => if l = a then nb l ++ [x] else nb l
theorem BesideAt.keep {H H' : Hp} {D : Addr} {pl : List Nm} {ad : Nm → Addr} {nb : Nm → List (Nm × Int)} (b : BesideAt H D pl ad nb) (s : Same H H') : BesideAt H' D pl ad nb :=
  ⟨s _ _ b.dict, fun l hl => let ⟨vs, h1, h2⟩ := b.each l hl; ⟨vs, s _ _ h1, DtAll.keep (TK.of s) h2⟩, b.inj⟩
theorem BesideAt.ne {H : Hp} {D : Addr} {pl : List Nm} {ad : Nm → Addr} {nb : Nm → List (Nm × Int)} (b : BesideAt H D pl ad nb) {l : Nm} (hl : l ∈ pl) : ad l ≠ D := by
  obtain ⟨vs, h, _⟩ := b.each l hl
  exact ne_of h b.dict (by intro z; cases z)
theorem BesideAt.add {H : Hp} {D : Addr} {pl : List Nm} {ad : Nm → Addr} {nb : Nm → List (Nm × Int)} (b : BesideAt H D pl ad nb) {a : Nm} (ha : a ∈ pl) {x : Nm × Int} {v : V} {vs : List V} (hv : Dt H v (pairD x)) (hvs : H (ad a) = some (.lst vs)) :
    BesideAt (upd H (ad a) (.lst (vs ++ [v]))) D pl ad (nbAdd nb a x) := by
  have tk : TK H (upd H (ad a) (.lst (vs ++ [v]))) := TK.mut hvs
  refine ⟨by rw [upd_ne (b.ne ha).symm]; exact b.dict, fun l hl => ?_, b.inj⟩
  by_cases e : l = a
  · subst e
    obtain ⟨ws, h1, h2⟩ := b.each l hl
    rw [hvs] at h1
    cases h1
    refine ⟨_, upd_same, ?_⟩
    unfold nbAdd
    rw [if_pos rfl, List.map_append]
    exact DtAll.app (DtAll.keep tk h2) (.cons (Dt.keep tk hv) .nil)
  · obtain ⟨ws, h1, h2⟩ := b.each l hl
    refine ⟨ws, by rw [upd_ne (fun z => e (b.inj l hl a ha z))]; exact h1, ?_⟩
    unfold nbAdd
    rw [if_neg e]
    exact DtAll.keep tk h2
/-- the ties of a place, as the program takes them down -/
def nbOf : List Tie → Nm → List (Nm × Int) := List.foldl (fun nb e => nbAdd (nbAdd nb e.1 (e.2.1, e.2.2)) e.2.1 (e.1, e.2.2)) (fun _ => [])
theorem nbOf_snoc (ts : List Tie) (e : Tie) : nbOf (ts ++ [e]) = nbAdd (nbAdd (nbOf ts) e.1 (e.2.1, e.2.2)) e.2.1 (e.1, e.2.2) := by
  unfold nbOf
  rw [List.foldl_append]
  rfl
theorem list_rec_snoc {α : Type} {P : List α → Prop} (h0 : P []) (h1 : ∀ l x, P l → P (l ++ [x])) : ∀ l, P l := by
  intro l
  have : ∀ r : List α, P r.reverse := by
    intro r
    induction r with
    | nil => exact h0
    | cons x r ih =>
      rw [List.reverse_cons]
      exact h1 _ _ ih
  have q := this l.reverse
  rwa [List.reverse_reverse] at q
theorem nbAdd_mem {nb : Nm → List (Nm × Int)} {a l : Nm} {x y : Nm × Int} : y ∈ nbAdd nb a x l ↔ y ∈ nb l ∨ (l = a ∧ y = x) := by
  unfold nbAdd
  by_cases e : l = a
  · rw [if_pos e, List.mem_append, List.mem_singleton]
    simp [e]
  · rw [if_neg e]
    simp [e]
theorem nbOf_adj (ts : List Tie) : ∀ (l x : Nm) (k : Int), (x, k) ∈ nbOf ts l ↔ Adj ts l x k := by
  induction ts using list_rec_snoc with
  | h0 =>
    intro l x k
    constructor
    · intro h
      cases h
    · intro h
      rcases h with h | h <;> cases h
  | h1 ts e ih =>
    intro l x k
    rw [nbOf_snoc, nbAdd_mem, nbAdd_mem, ih]
    obtain ⟨a, b, m⟩ := e
    constructor
    · rintro ((h | ⟨h1, h2⟩) | ⟨h1, h2⟩)
      · exact h.elim (fun z => .inl (List.mem_append_left _ z)) fun z => .inr (List.mem_append_left _ z)
      · cases h2
        exact .inl (by rw [h1]; simp)
      · cases h2
        exact .inr (by rw [h1]; simp)
    · rintro (h | h) <;> rcases List.mem_append.mp h with z | z
      · exact .inl (.inl (.inl z))
      · have z := List.mem_singleton.mp z
        cases z
        exact .inl (.inr ⟨rfl, rfl⟩)
      · exact .inl (.inl (.inr z))
      · have z := List.mem_singleton.mp z
        cases z
        exact .inr ⟨rfl, rfl⟩
theorem nbAdd_len {nb : Nm → List (Nm × Int)} {a l : Nm} {x : Nm × Int} : (nbAdd nb a x l).length ≤ (nb l).length + 1 := by
  unfold nbAdd
  split
  · rw [List.length_append]
    exact Nat.le_refl _
  · omega
theorem nbOf_len (ts : List Tie) : ∀ l, (nbOf ts l).length ≤ 2 * ts.length := by
  induction ts using list_rec_snoc with
  | h0 => intro l; exact Nat.zero_le _
  | h1 ts e ih =>
    intro l
    rw [nbOf_snoc, List.length_append, List.length_singleton]
    have h1 := nbAdd_len (nb := nbAdd (nbOf ts) e.1 (e.2.1, e.2.2)) (a := e.2.1) (l := l) (x := (e.1, e.2.2))
    have h2 := nbAdd_len (nb := nbOf ts) (a := e.1) (l := l) (x := (e.2.1, e.2.2))
    have h3 := ih l
    omega
/-- another object changes -/
theorem BesideAt.off {H : Hp} {D g : Addr} {o : HO} {pl : List Nm} {ad : Nm → Addr} {nb : Nm → List (Nm × Int)} (b : BesideAt H D pl ad nb) (tk : TK H (upd H g o)) (n : D ≠ g) (na : ∀ l ∈ pl, ad l ≠ g) : BesideAt (upd H g o) D pl ad nb :=
  ⟨by rw [upd_ne n]; exact b.dict, fun l hl => let ⟨vs, h1, h2⟩ := b.each l hl; ⟨vs, by rw [upd_ne (na l hl)]; exact h1, DtAll.keep tk h2⟩, b.inj⟩
abbrev s_ties_of_each : Stmt := topS 12
abbrev N_ties_of_each : List Str := ["tree", "places", "ties", "beside", "one", "other", "length", "place"]
theorem sc_ties_of_each : FnScope N_ties_of_each ["tree"] (defScope s_ties_of_each) := ⟨rfl, rfl, rfl, by decide +kernel, rfl, by decide +kernel, by decide +kernel⟩
section
variable {P : Program} {w : World} {K : PySem.W.Frag} {mg : Str → Option Value} {base : Heap}
def spTies : Sp := fun vs H Q _ => ∃ (v : V) (pl : List Nm) (ts : List Tie), vs = [v] ∧ Dt H v (treeD pl ts) ∧ Fine pl ts ∧ ∀ (H' : Hp) (D : Addr) (ad : Nm → Addr), Same H H' → H D = none → BesideAt H' D pl ad (nbOf ts) → (∀ l ∈ pl, H (ad l) = none) → Q (.ref D) H'
theorem ok_ties_of_each {f : Addr} {fd : FuncData} (F : Fun K "_ties_of_each" "_ties_of_each" s_ties_of_each f fd) : FnOk P w K mg base CX0 1 f fd ["tree"] spTies := by
  refine F.ok sc_ties_of_each (fun vs H Q E h => ?_) (fun cdv A outer s H vs Q E hr h => ?_)
  · obtain ⟨v, pl, ts, rfl, _⟩ := h
    rfl
  · obtain ⟨v, pl, ts, rfl, hd, fine, q⟩ := h
    obtain ⟨t, a, b, vs, rfl, ht, ha, hb, hA⟩ := dt_tree hd
    refine ⟨_, (pss_cons (ps_asg (pv 0) (pg_tup rfl (pgs_cons (pg_name (i := 1) sc_ties_of_each.nd rfl (.inl rfl)) (pgs_cons (pg_name (i := 2) sc_ties_of_each.nd rfl (.inl rfl)) pgs_nil))))
      (pss_cons (ps_setDc (i := 3) (own := [("place", 7)]) (g := gName 7) (tt := tYes) rfl sc_ties_of_each.nd rfl rfl (swD_true rfl rfl rfl (by decide +kernel)) (pi_tup (pv 1)) (blkOk_by (N := N_ties_of_each) (sc := defScope s_ties_of_each) (by decide +kernel)) (fun _ _ _ _ _ => pg_name (i := 7) sc_ties_of_each.nd rfl (Or.inl rfl)) (fun _ _ _ _ _ => pts_nil) (fun _ _ _ _ _ => (pv 7)) (fun _ _ _ _ _ => (pe_lst pa_nil)))
      (pss_cut (ps_for PassesOwn.never rfl (pi_tup (pv 2)) (pg_tup rfl (pgs_cons (pg_name (i := 4) sc_ties_of_each.nd rfl (.inl rfl)) (pgs_cons (pg_name (i := 5) sc_ties_of_each.nd rfl (.inl rfl)) (pgs_cons (pg_name (i := 6) sc_ties_of_each.nd rfl (.inl rfl)) pgs_nil))))
        (pss_cons (ps_expr (pe_bm PySem.F.plainAttrs_list PySem.F.slot_list_append PySem.F.type_list_append mt_append (pe_dget (hu_of hr) (pv 3) (pv 4) (fun _ _ => rfl)) (pa_cons (pe_tup (pa_cons (pv 5) (pa_cons (pv 6) pa_nil))) pa_nil)))
        (pss_one (ps_expr (pe_bm PySem.F.plainAttrs_list PySem.F.slot_list_append PySem.F.type_list_append mt_append (pe_dget (hu_of hr) (pv 3) (pv 5) (fun _ _ => rfl)) (pa_cons (pe_tup (pa_cons (pv 4) (pa_cons (pv 6) pa_nil))) pa_nil))))))
      (pss_one (ps_ret (pv 3)))))), ?_⟩
    have nd := fine.tree.nodup
    have pl1 := fine.len
    have len := fine.tree.len
    have vl : vs.length = ts.length := by
      have := DtAll.len hA
      rwa [List.length_map] at this
    refine ⟨_, rfl, t, _, rfl, SqT.of ht, rfl, _, _, rfl, _, _, rfl, rfl, ?_⟩
    refine ⟨_, rfl, a, rfl, ⟨_, ha.sq⟩, fun D nD => ?_⟩
    have Da : D ≠ a := (ha.ne nD).symm
    refine dc_tup (K := K) (a := a) (xs := (pl.map S).map V.str) (fun i H' => ∃ ad : Nm → Addr, Same H H' ∧ BesideAt H' D (pl.take i) ad (fun _ => []) ∧ ∀ l ∈ pl.take i, H (ad l) = none) ⟨fun _ => 0, same_new (Same.refl H) nD, ⟨upd_same, fun l hl => (by cases hl), fun l hl => (by cases hl)⟩, fun l hl => (by cases hl)⟩ (fun i H' _ hP => ?_) (fun i x H' hi hP => ?_) (fun H' hP => ?_)
    · obtain ⟨_, sm, _⟩ := hP
      exact (ha.same sm).sq
    · obtain ⟨ad, sm, bs, fr⟩ := hP
      rw [List.getElem?_map, List.getElem?_map] at hi
      cases el : pl[i]? with
      | none =>
        rw [el] at hi
        cases hi
      | some l =>
        rw [el] at hi
        have ex : x = .str (S l) := (Option.some.inj hi).symm
        subst ex
        have ln : l ∉ pl.take i := fun hm => by
          obtain ⟨j, hj, ej⟩ := List.mem_take_iff_getElem.mp hm
          obtain ⟨hi', ei⟩ := List.getElem?_eq_some_iff.mp el
          have := (List.getElem_inj nd).mp (ej.trans ei.symm)
          omega
        have et : pl.take (i + 1) = pl.take i ++ [l] := by
          rw [List.take_add_one, el]
          rfl
        refine ⟨rfl, _, rfl, Nat.zero_le _, fun g ng => ?_⟩
        have gD : g ≠ D := (ne_of_none bs.dict ng).symm
        have hD : (upd H' g (.lst [])) D = some (.dK (dkm (pl.take i) fun l => .ref (ad l))) := by
          rw [upd_ne gD.symm]
          exact bs.dict
        refine ⟨_, Sum.inr (S l), rfl, hD, by unfold dkm; rw [List.length_map, List.length_take]; exact sz_lt (by omega), ?_⟩
        rw [dkm_new ln, et]
        have adg : ∀ m ∈ pl.take i, ad m ≠ g := fun m hm => by
          obtain ⟨ws, h1, _⟩ := bs.each m hm
          exact ne_of_none h1 ng
        refine ⟨fun z => if z = l then g else ad z, same_put (same_new sm ng) nD, ⟨?_, fun m hm => ?_, fun m hm m' hm' => ?_⟩, fun m hm => ?_⟩
        · rw [upd_same]
          refine congrArg (fun z => some (HO.dK z)) (dkm_cong fun z _ => ?_)
          by_cases e : z = l <;> simp [e]
        · rcases List.mem_append.mp hm with z | z
          · have ml : m ≠ l := fun e => ln (e ▸ z)
            obtain ⟨ws, h1, h2⟩ := bs.each m z
            refine ⟨ws, ?_, DtAll.keep ((TK.new ng).trans (tkD hD)) h2⟩
            rw [if_neg ml, upd_ne (bs.ne z), upd_ne (adg m z)]
            exact h1
          · rw [List.mem_singleton.mp z, if_pos rfl]
            exact ⟨[], by rw [upd_ne gD]; exact upd_same, .nil⟩
        · rcases List.mem_append.mp hm with z | z <;> rcases List.mem_append.mp hm' with y | y
          · have ml : m ≠ l := fun e => ln (e ▸ z)
            have ml' : m' ≠ l := fun e => ln (e ▸ y)
            rw [if_neg ml, if_neg ml']
            exact bs.inj m z m' y
          · have ml : m ≠ l := fun e => ln (e ▸ z)
            rw [if_neg ml, List.mem_singleton.mp y, if_pos rfl]
            exact fun e => absurd e (adg m z)
          · have ml' : m' ≠ l := fun e => ln (e ▸ y)
            rw [if_neg ml', List.mem_singleton.mp z, if_pos rfl]
            exact fun e => absurd e.symm (adg m' y)
          · rw [List.mem_singleton.mp z, List.mem_singleton.mp y]
            exact fun _ => rfl
        · rcases List.mem_append.mp hm with z | z
          · have ml : m ≠ l := fun e => ln (e ▸ z)
            show H (if m = l then g else ad m) = none
            rw [if_neg ml]
            exact fr m z
          · rw [List.mem_singleton.mp z]
            show H (if l = l then g else ad l) = none
            rw [if_pos rfl]
            exact sm.free ng
    · obtain ⟨ad, sm, bs, fr⟩ := hP
      rw [List.length_map, List.length_map, List.take_length] at bs fr
      refine ⟨fun σ2 H2 => ∃ x4 x5 x6, σ2 = [some (.ref t), some (.ref a), some (.ref b), some (.ref D), x4, x5, x6, none] ∧ Same H H2 ∧ BesideAt H2 D pl ad (nbOf ts), ?_, fun σ2 H2 hM => ?_⟩
      · refine ⟨_, rfl, b, rfl, ⟨_, SqT.of (sm _ _ hb)⟩, for_tup (K := K) (a := b) (xs := vs) (fun i σ2 H2 => ∃ x4 x5 x6, σ2 = [some (.ref t), some (.ref a), some (.ref b), some (.ref D), x4, x5, x6, none] ∧ Same H H2 ∧ BesideAt H2 D pl ad (nbOf (ts.take i)))
          ⟨none, none, none, rfl, sm, bs⟩ (fun i σ2 H2 _ hP => ?_) (fun i x σ2 H2 hi hP => ?_) (fun σ2 H2 hP => ?_)⟩
        · obtain ⟨_, _, _, _, sm, _⟩ := hP
          exact SqT.of (sm _ _ hb)
        · obtain ⟨x4, x5, x6, rfl, sm2, bs2⟩ := hP
          obtain ⟨d, hd, hx⟩ := DtAll.get hA hi
          rw [List.getElem?_map] at hd
          cases ee : ts[i]? with
          | none =>
            rw [ee] at hd
            cases hd
          | some e =>
            rw [ee] at hd
            have ed : d = tieD e := (Option.some.inj hd).symm
            subst ed
            obtain ⟨u, rfl, hu⟩ := dt_tie hx
            have em : e ∈ ts := List.mem_of_getElem? ee
            obtain ⟨i1, i2, k1, k2⟩ := fine.tree.ties e em
            have et : ts.take (i + 1) = ts.take i ++ [e] := by
              rw [List.take_add_one, ee]
              rfl
            have tl : (ts.take i).length ≤ 1000 := by
              rw [List.length_take]
              omega
            refine ⟨u, _, rfl, SqT.of (sm2 _ _ hu), rfl, _, _, rfl, _, _, rfl, _, _, rfl, rfl, ?_⟩
            -- beside[one].append
            obtain ⟨w1, g1, g2⟩ := bs2.each e.1 i1
            have l1 : w1.length = (nbOf (ts.take i) e.1).length := by
              have := DtAll.len g2
              rwa [List.length_map] at this
            have l1' := nbOf_len (ts.take i) e.1
            refine ⟨_, rfl, _, rfl, D, .ref (ad e.1), rfl, by rw [← dkm_get (f := fun l => V.ref (ad l)) i1]; exact DGet.k (k := Sum.inr (S e.1)) bs2.dict, .inl ⟨rfl, _, SqL.of g1⟩, _, rfl, _, rfl, (by show 2 ≤ sizeLine; decide), fun p np => ?_⟩
            have bs3 := bs2.keep (same_new (o := .tup [.str (S e.2.1), .int e.2.2]) (Same.refl H2) np)
            have g1' : (upd H2 p (.tup [.str (S e.2.1), .int e.2.2])) (ad e.1) = some (.lst w1) := by
              rw [upd_ne (ne_of_none g1 np)]
              exact g1
            refine ⟨_, _, _, rfl, rfl, g1', sz_lt (by omega), ?_⟩
            have bs4 := bs3.add i1 (x := (e.2.1, e.2.2)) (v := .ref p) (.tup upd_same (.cons (.str _) (.cons (.int _) .nil))) g1'
            have sm4 : Same H (upd (upd H2 p (.tup [.str (S e.2.1), .int e.2.2])) (ad e.1) (.lst (w1 ++ [.ref p]))) := same_put (same_new sm2 np) (fr _ i1)
            generalize upd (upd H2 p (.tup [.str (S e.2.1), .int e.2.2])) (ad e.1) (.lst (w1 ++ [.ref p])) = H4 at bs4 sm4
            -- beside[other].append
            obtain ⟨w2, g3, g4⟩ := bs4.each e.2.1 i2
            have l2 : w2.length = (nbAdd (nbOf (ts.take i)) e.1 (e.2.1, e.2.2) e.2.1).length := by
              have := DtAll.len g4
              rwa [List.length_map] at this
            have l2' := nbOf_len (ts.take i) e.2.1
            have l2'' := nbAdd_len (nb := nbOf (ts.take i)) (a := e.1) (l := e.2.1) (x := (e.2.1, e.2.2))
            refine ⟨_, rfl, _, rfl, D, .ref (ad e.2.1), rfl, by rw [← dkm_get (f := fun l => V.ref (ad l)) i2]; exact DGet.k (k := Sum.inr (S e.2.1)) bs4.dict, .inl ⟨rfl, _, SqL.of g3⟩, _, rfl, _, rfl, (by show 2 ≤ sizeLine; decide), fun p' np' => ?_⟩
            have bs5 := bs4.keep (same_new (o := .tup [.str (S e.1), .int e.2.2]) (Same.refl H4) np')
            have g3' : (upd H4 p' (.tup [.str (S e.1), .int e.2.2])) (ad e.2.1) = some (.lst w2) := by
              rw [upd_ne (ne_of_none g3 np')]
              exact g3
            refine ⟨_, _, _, rfl, rfl, g3', sz_lt (by omega), ?_⟩
            have bs6 := bs5.add i2 (x := (e.1, e.2.2)) (v := .ref p') (.tup upd_same (.cons (.str _) (.cons (.int _) .nil))) g3'
            refine ⟨_, _, _, rfl, same_put (same_new sm4 np') (fr _ i2), ?_⟩
            rw [et, nbOf_snoc]
            exact bs6
        · obtain ⟨x4, x5, x6, rfl, sm2, bs2⟩ := hP
          rw [vl, List.take_length] at bs2
          exact ⟨_, _, _, rfl, sm2, bs2⟩
      · obtain ⟨x4, x5, x6, rfl, sm2, bs2⟩ := hM
        exact ⟨_, rfl, q H2 D ad sm2 nD bs2 fr⟩
end
end Far

namespace Far
open PySem PySem.Spec PyProof.Rows L2
open C8 (pss_cut tCut)
open SX (S)
/-! ### a walk through a tree: fs come to, st to be gone on from, ex being gone on from -/
abbrev s_walk_from : Stmt := topS 11
abbrev N_walk_from : List Str := ["tree", "start", "beside", "back", "lengths", "ahead", "here", "place", "length"]
theorem sc_walk_from : FnScope N_walk_from ["tree", "start"] (defScope s_walk_from) := ⟨rfl, rfl, rfl, by decide +kernel, rfl, by decide +kernel, by decide +kernel⟩
section
variable {P : Program} {w : World} {K : PySem.W.Frag} {mg : Str → Option Value} {base : Heap}
/-- what a walk from u tells, at q -/
structure Walked (H : Hp) (q bk ln : Addr) (pl : List Nm) (ts : List Tie) (u : Nm) (fs : List Nm) (prev : Nm → Nm) : Prop where
  pair : H q = some (.tup [.ref bk, .ref ln])
  back : H bk = some (.dK (dkm fs fun x => .str (S (prev x))))
  lens : H ln = some (.dK (dkm fs fun x => .int (dist ts u x)))
  all : ∀ x, x ∈ fs ↔ x ∈ pl
  pr : ∀ x ∈ fs, x ≠ u → prev x ∈ fs ∧ path ts u x = path ts u (prev x) ++ [x]
def spWalk : Sp := fun vs H Q _ => ∃ (v : V) (pl : List Nm) (ts : List Tie) (u : Nm), vs = [v, .str (S u)] ∧ Dt H v (treeD pl ts) ∧ Fine pl ts ∧ u ∈ pl ∧ ∀ (H' : Hp) (q bk ln : Addr) (fs : List Nm) (prev : Nm → Nm), Same H H' → Walked H' q bk ln pl ts u fs prev → Q (.ref q) H'
theorem ok_walk_from {f : Addr} {fd : FuncData} (F : Fun K "walk_from" "walk_from" s_walk_from f fd) (C_ties_of_each : Cal P w K mg base 1 "_ties_of_each" spTies) : FnOk P w K mg base CX0 2 f fd ["tree", "start"] spWalk := by
  refine F.ok sc_walk_from (fun vs H Q E h => ?_) (fun cdv A outer s H vs Q E hr h => ?_)
  · obtain ⟨v, pl, ts, u, rfl, _⟩ := h
    rfl
  · obtain ⟨v, pl, ts, u, rfl, hd, fine, hu, q⟩ := h
    refine ⟨_, (pss_cons (ps_set (i := 2) sc_walk_from.nd rfl (.inl rfl) (pe_c C_ties_of_each hr (by decide) rfl (pa_cons (pv 0) pa_nil)))
      (pss_cons (ps_set (i := 3) sc_walk_from.nd rfl (.inl rfl) (pe_disp (pps_cons (pv 1) (pv 1) pps_nil) (by rfl) (by rfl) (fun z => by cases z) (by decide)))
      (pss_cons (ps_set (i := 4) sc_walk_from.nd rfl (.inl rfl) (pe_disp (pps_cons (pv 1) pe_int pps_nil) (by rfl) (by rfl) (fun z => by cases z) (by decide)))
      (pss_cons (ps_set (i := 5) sc_walk_from.nd rfl (.inl rfl) (pe_lst (pa_cons (pv 1) pa_nil)))
      (pss_cut (ps_while PassesOwn.never (pt_truth (pv 5) (by intro _; rfl))
        (pss_cons (ps_set (i := 6) sc_walk_from.nd rfl (.inl rfl) (pe_bm0 PySem.F.plainAttrs_list PySem.F.slot_list_pop PySem.F.type_list_pop mt_pop (pv 5)))
        (pss_one (ps_for PassesOwn.never rfl (pi_list (pe_dget (hu_of hr) (pv 2) (pv 6) (fun _ _ => rfl))) (pg_tup rfl (pgs_cons (pg_name (i := 7) sc_walk_from.nd rfl (.inl rfl)) (pgs_cons (pg_name (i := 8) sc_walk_from.nd rfl (.inl rfl)) pgs_nil)))
          (pss_one (ps_if (pt_cmp (pc_dnotin (hu_of hr) (pv 7) (pv 3)))
            (pss_cons (ps_dput (hu_of hr) (pv 3) (pv 7) (pv 6) rfl)
            (pss_cons (ps_dput (hu_of hr) (pv 4) (pv 7) (pe_op op_add (pe_dget (hu_of hr) (pv 4) (pv 6) (fun _ _ => rfl)) (pv 8)) rfl)
            (pss_one (ps_expr (pe_bm PySem.F.plainAttrs_list PySem.F.slot_list_append PySem.F.type_list_append mt_append (pv 5) (pa_cons (pv 7) pa_nil))))))
            pss_nil))))))
      (pss_one (ps_ret (pe_tup (pa_cons (pv 3) (pa_cons (pv 4) pa_nil)))))))))), ?_⟩
    have tr := fine.tree
    have pl1 := fine.len
    have tl1 := tr.len
    refine ⟨_, rfl, v, pl, ts, rfl, hd, fine, fun H1 D ad S1 nD bs fr => ?_⟩
    -- back, lengths, ahead
    refine fun bk nbk => ⟨_, rfl, _, rfl, upd_same, [(Sum.inr (S u), .str (S u))], rfl, (by decide : 1 ≤ 15), ?_⟩
    rw [upd_upd]
    have S2 := same_new (o := .dK (mergeK [] [((Sum.inr (S u) : Key), V.str (S u))])) S1 nbk
    have bs2 := bs.keep (same_new (o := .dK (mergeK [] [((Sum.inr (S u) : Key), V.str (S u))])) (Same.refl H1) nbk)
    refine fun ln nln => ⟨_, rfl, upd_same, [(Sum.inr (S u), .int 0)], rfl, (by decide : 1 ≤ 15), ?_⟩
    rw [upd_upd]
    have S3 := same_new (o := .dK (mergeK [] [((Sum.inr (S u) : Key), V.int 0)])) S2 nln
    have bs3 := bs2.keep (same_new (o := .dK (mergeK [] [((Sum.inr (S u) : Key), V.int 0)])) (Same.refl _) nln)
    refine ⟨_, rfl, (by show 1 ≤ sizeLine; decide), fun ah nah => ?_⟩
    have S4 := same_new (o := .lst [.str (S u)]) S3 nah
    have bs4 := bs3.keep (same_new (o := .lst [.str (S u)]) (Same.refl _) nah)
    have bkln : bk ≠ ln := ne_of_none upd_same nln
    have bkah : bk ≠ ah := ne_of_none (by rw [upd_ne bkln]; exact upd_same) nah
    have lnah : ln ≠ ah := ne_of_none upd_same nah
    have Dbk : D ≠ bk := ne_of_none bs.dict nbk
    have Dln : D ≠ ln := ne_of_none bs2.dict nln
    have Dah : D ≠ ah := ne_of_none bs3.dict nah
    have bk0 : H bk = none := S1.free nbk
    have ln0 : H ln = none := S2.free nln
    have ah0 : H ah = none := S3.free nah
    have adbk : ∀ l ∈ pl, ad l ≠ bk := fun l hl => let ⟨_, h1, _⟩ := bs.each l hl; ne_of_none h1 nbk
    have adln : ∀ l ∈ pl, ad l ≠ ln := fun l hl => let ⟨_, h1, _⟩ := bs2.each l hl; ne_of_none h1 nln
    have adah : ∀ l ∈ pl, ad l ≠ ah := fun l hl => let ⟨_, h1, _⟩ := bs3.each l hl; ne_of_none h1 nah
    have hbk : (upd (upd (upd H1 bk (.dK (mergeK [] [((Sum.inr (S u) : Key), V.str (S u))]))) ln (.dK (mergeK [] [((Sum.inr (S u) : Key), V.int 0)]))) ah (.lst [.str (S u)])) bk = some (.dK (dkm [u] fun x => .str (S u))) := by
      rw [upd_ne bkah, upd_ne bkln]
      exact upd_same
    have hln : (upd (upd (upd H1 bk (.dK (mergeK [] [((Sum.inr (S u) : Key), V.str (S u))]))) ln (.dK (mergeK [] [((Sum.inr (S u) : Key), V.int 0)]))) ah (.lst [.str (S u)])) ln = some (.dK (dkm [u] fun x => .int (dist ts u x))) := by
      rw [upd_ne lnah]
      refine upd_same.trans ?_
      unfold dkm
      rw [List.map_singleton]
      show some (HO.dK [((Sum.inr (S u) : Key), V.int 0)]) = some (HO.dK [((Sum.inr (S u) : Key), V.int (dist ts u u))])
      rw [(tr.dist_self u).1]
    have hah : (upd (upd (upd H1 bk (.dK (mergeK [] [((Sum.inr (S u) : Key), V.str (S u))]))) ln (.dK (mergeK [] [((Sum.inr (S u) : Key), V.int 0)]))) ah (.lst [.str (S u)])) ah = some (.lst (([u].map S).map V.str)) := upd_same
    generalize upd (upd (upd H1 bk (.dK (mergeK [] [((Sum.inr (S u) : Key), V.str (S u))]))) ln (.dK (mergeK [] [((Sum.inr (S u) : Key), V.int 0)]))) ah (.lst [.str (S u)]) = H4 at S4 bs4 hbk hln hah
    refine ⟨fun σ' H' => ∃ (fs : List Nm) (prev : Nm → Nm) (x6 x7 x8 : Option V), σ' = [some v, some (.str (S u)), some (.ref D), some (.ref bk), some (.ref ln), some (.ref ah), x6, x7, x8] ∧ Same H H' ∧ H' bk = some (.dK (dkm fs fun x => .str (S (prev x)))) ∧ H' ln = some (.dK (dkm fs fun x => .int (dist ts u x))) ∧ Wk pl ts u fs [] prev (fun _ => False), ?_, fun σ' H' hM => ?_⟩
    · refine ⟨fun m σ' H' => ∃ (fs st : List Nm) (prev : Nm → Nm) (x6 x7 x8 : Option V), σ' = [some v, some (.str (S u)), some (.ref D), some (.ref bk), some (.ref ln), some (.ref ah), x6, x7, x8] ∧ Same H H' ∧ BesideAt H' D pl ad (nbOf ts) ∧ H' bk = some (.dK (dkm fs fun x => .str (S (prev x)))) ∧ H' ln = some (.dK (dkm fs fun x => .int (dist ts u x))) ∧ H' ah = some (.lst ((st.map S).map V.str)) ∧ Wk pl ts u fs st prev (fun _ => False) ∧ st.length ≤ fs.length ∧ 2 * fs.length + m = 2 * pl.length + st.length,
        ⟨2 * pl.length - 1, [u], [u], fun _ => u, none, none, none, rfl, S4, bs4, hbk, hln, hah, Wk.start tr hu, Nat.le_refl _, by have := List.length_pos_of_mem hu; simp; omega⟩, ?_⟩
      rintro m σ2 H2 ⟨fs, st, prev, x6, x7, x8, rfl, SM, bs5, hbk5, hln5, hah5, wk, sl, em⟩
      refine ⟨_, rfl, _, .inl ⟨_, SqL.of hah5, rfl⟩, ?_⟩
      rcases List.eq_nil_or_concat st with rfl | ⟨st', h, e⟩
      · exact ⟨fs, prev, x6, x7, x8, rfl, SM, hbk5, hln5, wk⟩
      · rw [List.concat_eq_append] at e
        subst e
        have ne : ((st' ++ [h]).map S).map V.str = (st'.map S).map V.str ++ [.str (S h)] := by
          rw [List.map_append, List.map_append]
          rfl
        rw [ne] at hah5 ⊢
        have nb : (!((st'.map S).map V.str ++ [V.str (S h)]).isEmpty) = true := by simp
        rw [nb]
        refine iteT ?_
        obtain ⟨hh, wk1⟩ := wk.pop
        have hpl := wk1.sub h hh
        have fl := nodup_sub_len fs pl wk.nd wk.sub
        rw [List.length_append, List.length_singleton] at em sl
        obtain ⟨ws, hw1, hw2⟩ := bs5.each h hpl
        have wl : ws.length = (nbOf ts h).length := by
          have := DtAll.len hw2
          rwa [List.length_map] at this
        refine ⟨fun σ' H' => ∃ (fs' st'' : List Nm) (prev' : Nm → Nm) (x6 x7 x8 : Option V), σ' = [some v, some (.str (S u)), some (.ref D), some (.ref bk), some (.ref ln), some (.ref ah), x6, x7, x8] ∧ Same H H' ∧ BesideAt H' D pl ad (nbOf ts) ∧ H' bk = some (.dK (dkm fs' fun x => .str (S (prev' x)))) ∧ H' ln = some (.dK (dkm fs' fun x => .int (dist ts u x))) ∧ H' ah = some (.lst ((st''.map S).map V.str)) ∧ Wk pl ts u fs' st'' prev' (fun _ => False) ∧ fs.length ≤ fs'.length ∧ fs'.length + st'.length = fs.length + st''.length, ?_, ?_⟩
        · rintro σ' H' ⟨fs', st'', prev', y6, y7, y8, e1, e2, e3, e4, e5, e6, e7, e8, e9⟩
          have fl' := nodup_sub_len fs' pl e7.nd e7.sub
          exact ⟨2 * pl.length + st''.length - 2 * fs'.length, by omega, fs', st'', prev', y6, y7, y8, e1, e2, e3, e4, e5, e6, e7, by omega, by omega⟩
        · refine ⟨_, rfl, .inl ⟨rfl, _, SqL.of hah5⟩, ah, _, .str (S h), rfl, rfl, hah5, by simp, ?_⟩
          rw [List.dropLast_concat]
          have hbk6 : (upd H2 ah (.lst ((st'.map S).map V.str))) bk = some (.dK (dkm fs fun x => .str (S (prev x)))) := by rw [upd_ne bkah]; exact hbk5
          have hln6 : (upd H2 ah (.lst ((st'.map S).map V.str))) ln = some (.dK (dkm fs fun x => .int (dist ts u x))) := by rw [upd_ne lnah]; exact hln5
          have hw6 : (upd H2 ah (.lst ((st'.map S).map V.str))) (ad h) = some (.lst ws) := by rw [upd_ne (adah h hpl)]; exact hw1
          have SM6 : Same H (upd H2 ah (.lst ((st'.map S).map V.str))) := same_put SM ah0
          have bs6 : BesideAt (upd H2 ah (.lst ((st'.map S).map V.str))) D pl ad (nbOf ts) := bs5.off (TK.mut hah5) Dah adah
          have hah6 : (upd H2 ah (.lst ((st'.map S).map V.str))) ah = some (.lst ((st'.map S).map V.str)) := upd_same
          generalize upd H2 ah (.lst ((st'.map S).map V.str)) = H6 at hbk6 hln6 hw6 SM6 bs6 hah6
          refine ⟨_, rfl, _, rfl, D, .ref (ad h), rfl, by rw [← dkm_get (f := fun l => V.ref (ad l)) hpl]; exact DGet.k (k := Sum.inr (S h)) bs6.dict, ad h, rfl, ⟨_, SqL.of hw6⟩, for_list (K := K) (a := ad h) (xs := ws) (fun i σ' H' => ∃ (fs' st'' : List Nm) (prev' : Nm → Nm) (x7 x8 : Option V), σ' = [some v, some (.str (S u)), some (.ref D), some (.ref bk), some (.ref ln), some (.ref ah), some (.str (S h)), x7, x8] ∧ Same H H' ∧ BesideAt H' D pl ad (nbOf ts) ∧ H' (ad h) = some (.lst ws) ∧ H' bk = some (.dK (dkm fs' fun x => .str (S (prev' x)))) ∧ H' ln = some (.dK (dkm fs' fun x => .int (dist ts u x))) ∧ H' ah = some (.lst ((st''.map S).map V.str)) ∧ Wk pl ts u fs' st'' prev' (fun x => x = h) ∧ fs.length ≤ fs'.length ∧ fs'.length + st'.length = fs.length + st''.length ∧ h ∈ fs' ∧ ∀ p ∈ (nbOf ts h).take i, p.1 ∈ fs')
            ⟨fs, st', prev, x7, x8, rfl, SM6, bs6, hw6, hbk6, hln6, hah6, wk1, Nat.le_refl _, rfl, hh, fun p hp => (by cases hp)⟩ (fun i σ' H' _ hP => ?_) (fun i x σ' H' hi hP => ?_) (fun σ' H' hP => ?_)⟩
          · obtain ⟨_, _, _, _, _, _, _, _, hw, _⟩ := hP
            exact SqL.of hw
          · obtain ⟨fs', st'', prev', y7, y8, rfl, SM7, bs7, hw7, hbk7, hln7, hah7, wk7, le7, em7, hh7, nb7⟩ := hP
            obtain ⟨ws', hw', hA7⟩ := bs7.each h hpl
            rw [hw7] at hw'
            cases hw'
            obtain ⟨d, hd', hx⟩ := DtAll.get hA7 hi
            rw [List.getElem?_map] at hd'
            cases ee : (nbOf ts h)[i]? with
            | none =>
              rw [ee] at hd'
              cases hd'
            | some yk =>
              obtain ⟨y, k⟩ := yk
              rw [ee] at hd'
              have ed : d = pairD (y, k) := (Option.some.inj hd').symm
              subst ed
              obtain ⟨g, rfl, hg⟩ := dt_pairD hx
              have adj : Adj ts h y k := (nbOf_adj ts h y k).mp (List.mem_of_getElem? ee)
              have et : (nbOf ts h).take (i + 1) = (nbOf ts h).take i ++ [(y, k)] := by
                rw [List.take_add_one, ee]
                rfl
              have fl' := nodup_sub_len fs' pl wk7.nd wk7.sub
              have szf : ∀ f : Nm → V, (dkm fs' f).length < sizeLine := fun f => by
                unfold dkm
                rw [List.length_map]
                exact sz_lt (by omega)
              refine ⟨g, _, rfl, SqT.of hg, rfl, _, _, rfl, _, _, rfl, rfl, ?_⟩
              refine ⟨_, rfl, _, rfl, bk, _, rfl, DGet.k (k := Sum.inr (S y)) hbk7, _, rfl, ?_⟩
              rw [dkm_some]
              by_cases hy : y ∈ fs'
              · rw [decide_eq_true hy]
                refine iteF ⟨fs', st'', prev', _, _, rfl, SM7, bs7, hw7, hbk7, hln7, hah7, wk7, le7, em7, hh7, fun p hp => ?_⟩
                rw [et] at hp
                rcases List.mem_append.mp hp with z | z
                · exact nb7 p z
                · rw [List.mem_singleton.mp z]
                  exact hy
              · rw [decide_eq_false hy]
                refine iteT ?_
                obtain ⟨e1, wk8⟩ := wk7.push tr hh7 adj hy
                -- back[place] = here
                refine ⟨_, rfl, _, rfl, _, rfl, bk, _, rfl, DPut.k (k := Sum.inr (S y)) hbk7 (szf _), ?_⟩
                rw [dkm_new hy]
                have SM8 := same_put (o := .dK (dkm (fs' ++ [y]) fun z => if z = y then V.str (S h) else .str (S (prev' z)))) SM7 bk0
                have bs8 := bs7.off (o := .dK (dkm (fs' ++ [y]) fun z => if z = y then V.str (S h) else .str (S (prev' z)))) (tkD hbk7) Dbk adbk
                have hln8 : (upd H' bk (.dK (dkm (fs' ++ [y]) fun z => if z = y then V.str (S h) else .str (S (prev' z))))) ln = some (.dK (dkm fs' fun x => .int (dist ts u x))) := by rw [upd_ne bkln.symm]; exact hln7
                have hah8 : (upd H' bk (.dK (dkm (fs' ++ [y]) fun z => if z = y then V.str (S h) else .str (S (prev' z))))) ah = some (.lst ((st''.map S).map V.str)) := by rw [upd_ne bkah.symm]; exact hah7
                have hw8 : (upd H' bk (.dK (dkm (fs' ++ [y]) fun z => if z = y then V.str (S h) else .str (S (prev' z))))) (ad h) = some (.lst ws) := by rw [upd_ne (adbk h hpl)]; exact hw7
                have hbk8 : (upd H' bk (.dK (dkm (fs' ++ [y]) fun z => if z = y then V.str (S h) else .str (S (prev' z))))) bk = some (.dK (dkm (fs' ++ [y]) fun z => .str (S (if z = y then h else prev' z)))) := by
                  rw [upd_same]
                  exact congrArg (fun z => some (HO.dK z)) (dkm_cong fun z _ => by by_cases q : z = y <;> simp [q])
                generalize upd H' bk (.dK (dkm (fs' ++ [y]) fun z => if z = y then V.str (S h) else .str (S (prev' z)))) = H8 at SM8 bs8 hln8 hah8 hw8 hbk8
                -- lengths[place] = lengths[here] + length
                refine ⟨_, rfl, _, rfl, ln, .int (dist ts u h), rfl, by rw [← dkm_get (f := fun x => V.int (dist ts u x)) hh7]; exact DGet.k (k := Sum.inr (S h)) hln8, _, rfl, _, _, rfl, rfl, _, rfl, _, rfl, ln, _, rfl, DPut.k (k := Sum.inr (S y)) hln8 (szf _), ?_⟩
                rw [dkm_new hy]
                have SM9 := same_put (o := .dK (dkm (fs' ++ [y]) fun z => if z = y then V.int (dist ts u h + k) else .int (dist ts u z))) SM8 ln0
                have bs9 := bs8.off (o := .dK (dkm (fs' ++ [y]) fun z => if z = y then V.int (dist ts u h + k) else .int (dist ts u z))) (tkD hln8) Dln adln
                have hbk9 : (upd H8 ln (.dK (dkm (fs' ++ [y]) fun z => if z = y then V.int (dist ts u h + k) else .int (dist ts u z)))) bk = some (.dK (dkm (fs' ++ [y]) fun z => .str (S (if z = y then h else prev' z)))) := by rw [upd_ne bkln]; exact hbk8
                have hah9 : (upd H8 ln (.dK (dkm (fs' ++ [y]) fun z => if z = y then V.int (dist ts u h + k) else .int (dist ts u z)))) ah = some (.lst ((st''.map S).map V.str)) := by rw [upd_ne lnah.symm]; exact hah8
                have hw9 : (upd H8 ln (.dK (dkm (fs' ++ [y]) fun z => if z = y then V.int (dist ts u h + k) else .int (dist ts u z)))) (ad h) = some (.lst ws) := by rw [upd_ne (adln h hpl)]; exact hw8
                have hln9 : (upd H8 ln (.dK (dkm (fs' ++ [y]) fun z => if z = y then V.int (dist ts u h + k) else .int (dist ts u z)))) ln = some (.dK (dkm (fs' ++ [y]) fun z => .int (dist ts u z))) := by
                  rw [upd_same]
                  refine congrArg (fun z => some (HO.dK z)) (dkm_cong fun z _ => ?_)
                  by_cases q : z = y
                  · rw [if_pos q, q, e1]
                  · rw [if_neg q]
                generalize upd H8 ln (.dK (dkm (fs' ++ [y]) fun z => if z = y then V.int (dist ts u h + k) else .int (dist ts u z))) = H9 at SM9 bs9 hbk9 hah9 hw9 hln9
                -- ahead.append(place)
                have stl : st''.length ≤ 3000 := by omega
                refine ⟨_, rfl, .inl ⟨rfl, _, SqL.of hah9⟩, _, rfl, ah, _, _, rfl, rfl, hah9, by rw [List.length_map, List.length_map]; exact sz_lt (by omega), ?_⟩
                refine ⟨fs' ++ [y], st'' ++ [y], _, _, _, rfl, same_put SM9 ah0, bs9.off (TK.mut hah9) Dah adah, by rw [upd_ne (adah h hpl)]; exact hw9, by rw [upd_ne bkah]; exact hbk9, by rw [upd_ne lnah]; exact hln9, ?_, wk8, by rw [List.length_append]; omega, by rw [List.length_append, List.length_append]; omega, List.mem_append_left _ hh7, fun p hp => ?_⟩
                · rw [upd_same, List.map_append, List.map_append]
                  rfl
                · rw [et] at hp
                  rcases List.mem_append.mp hp with z | z
                  · exact List.mem_append_left _ (nb7 p z)
                  · rw [List.mem_singleton.mp z]
                    exact List.mem_append_right _ (List.mem_singleton.mpr rfl)
          · obtain ⟨fs', st'', prev', y7, y8, rfl, SM7, bs7, hw7, hbk7, hln7, hah7, wk7, le7, em7, hh7, nb7⟩ := hP
            refine ⟨fs', st'', prev', _, _, _, rfl, SM7, bs7, hbk7, hln7, hah7, wk7.shut fun y k ha => ?_, le7, em7⟩
            rw [wl, List.take_length] at nb7
            exact nb7 _ ((nbOf_adj ts h y k).mpr ha)
    · obtain ⟨fs, prev, x6, x7, x8, rfl, SM, hbk5, hln5, wk⟩ := hM
      refine ⟨_, rfl, _, rfl, (by show 2 ≤ sizeLine; decide), fun p np => ?_⟩
      refine q _ p bk ln fs prev (same_new SM np) ⟨upd_same, by rw [upd_ne (ne_of_none hbk5 np)]; exact hbk5, by rw [upd_ne (ne_of_none hln5 np)]; exact hln5, wk.all tr, wk.pr⟩
end
end Far

namespace Far
open PySem PySem.Spec PyProof.Rows L2
open C8 (pss_cut tCut)
open SX (S)
theorem inV_strsT (l : Nm) (ls : List Nm) : inV (.str (S l)) ((ls.map S).map V.str) = decide (l ∈ ls) := inV_strs l ls
theorem pl0_of {H : Hp} {v : V} {pl : List Nm} {ts : List Tie} (h : Dt H v (treeD pl ts)) : ∃ (t a b : Addr), v = .ref t ∧ H t = some (.tup [.ref a, .ref b]) ∧ TupAt H a ((pl.map S).map V.str) := by
  obtain ⟨t, a, b, vs, e, h1, h2, _⟩ := dt_tree h
  exact ⟨t, a, b, e, h1, h2⟩
abbrev s_check_places : Stmt := topS 10
abbrev N_check_places : List Str := ["tree", "names", "name"]
theorem sc_check_places : FnScope N_check_places ["tree", "names"] (defScope s_check_places) := ⟨rfl, rfl, rfl, by decide +kernel, rfl, by decide +kernel, by decide +kernel⟩
section
variable {P : Program} {w : World} {K : PySem.W.Frag} {mg : Str → Option Value} {base : Heap}
def spCheck : Sp := fun vs H Q _ => ∃ (v : V) (n : Addr) (pl ns : List Nm) (ts : List Tie), vs = [v, .ref n] ∧ Dt H v (treeD pl ts) ∧ H n = some (.tup ((ns.map S).map V.str)) ∧ (∀ x ∈ ns, x ∈ pl) ∧ Q .non H
theorem ok_check_places {f : Addr} {fd : FuncData} (F : Fun K "check_places" "check_places" s_check_places f fd) : FnOk P w K mg base CX0 1 f fd ["tree", "names"] spCheck := by
  refine F.ok sc_check_places (fun vs H Q E h => ?_) (fun cdv A outer s H vs Q E hr h => ?_)
  · obtain ⟨v, n, pl, ns, ts, rfl, _⟩ := h
    rfl
  · obtain ⟨v, n, pl, ns, ts, rfl, hd, hn, sub, q⟩ := h
    obtain ⟨t, a, b, rfl, ht, ha⟩ := pl0_of hd
    refine ⟨_, (pss_one (ps_for PassesOwn.never rfl (pi_tup (pv 1)) (pg_name (i := 2) sc_check_places.nd rfl (.inl rfl))
        (pss_one (ps_if (pt_cmpR op_notIn_seq (pv 2) (pe_ix ix_tup (pv 0) pe_int (fun _ _ => rfl)) rfl)
          (pss_one ps_never)
          pss_nil)))), ?_⟩
    refine ⟨_, rfl, n, rfl, ⟨_, SqT.of hn⟩, for_tup (K := K) (a := n) (xs := (ns.map S).map V.str) (fun i σ' H' => (∃ x2, σ' = [some (.ref t), some (.ref n), x2]) ∧ H' = H) ⟨⟨_, rfl⟩, rfl⟩ (fun i σ' H' _ hP => hP.2 ▸ SqT.of hn) (fun i x σ' H' hi hP => ?_) (fun σ' H' hP => hP.2 ▸ q)⟩
    obtain ⟨⟨x2, rfl⟩, rfl⟩ := hP
    obtain ⟨l, hl, rfl⟩ := strs_at (List.mem_of_getElem? hi)
    refine ⟨_, rfl, _, rfl, t, _, 0, .ref a, rfl, rfl, SqT.of ht, atI_nat (j := 0) rfl, a, _, rfl, .inr ha.sq, rfl, flat_strs pl, _, rfl, ?_⟩
    rw [inV_strs, decide_eq_true (sub l hl)]
    exact iteF ⟨⟨_, rfl⟩, rfl⟩
end
abbrev s_lengths_from : Stmt := topS 9
abbrev N_lengths_from : List Str := ["tree", "place", "_", "lengths", "name"]
theorem sc_lengths_from : FnScope N_lengths_from ["tree", "place"] (defScope s_lengths_from) := ⟨rfl, rfl, rfl, by decide +kernel, rfl, by decide +kernel, by decide +kernel⟩
section
variable {P : Program} {w : World} {K : PySem.W.Frag} {mg : Str → Option Value} {base : Heap}
def spLens : Sp := fun vs H Q _ => ∃ (v : V) (pl : List Nm) (ts : List Tie) (u : Nm), vs = [v, .str (S u)] ∧ Dt H v (treeD pl ts) ∧ Fine pl ts ∧ u ∈ pl ∧ ∀ (H' : Hp) (q : Addr), Same H H' → H q = none → H' q = some (.tup (pl.map fun x => .int (dist ts u x))) → Q (.ref q) H'
theorem lens_body {H1 : Hp} {q bk ln : Addr} {pl fs : List Nm} {ts : List Tie} {u : Nm} {prev : Nm → Nm} (W : Walked H1 q bk ln pl ts u fs prev) {x : Nm} (hx : x ∈ pl) {H' : Hp} (s : H' ln = H1 ln) : DGet H' ln (.str (S x)) (some (.int (dist ts u x))) := by
  have e := W.lens
  rw [← s] at e
  have := DGet.k (k := Sum.inr (S x)) e
  rw [dkm_get ((W.all x).mpr hx)] at this
  exact this
theorem ok_lengths_from {f : Addr} {fd : FuncData} (F : Fun K "lengths_from" "lengths_from" s_lengths_from f fd) (T : TxtW mg) (Ccheck_places : Cal P w K mg base 1 "check_places" spCheck) (Cwalk_from : Cal P w K mg base 2 "walk_from" spWalk) : FnOk P w K mg base CX0 3 f fd ["tree", "place"] spLens := by
  refine F.ok sc_lengths_from (fun vs H Q E h => ?_) (fun cdv A outer s H vs Q E hr h => ?_)
  · obtain ⟨v, pl, ts, u, rfl, _⟩ := h
    rfl
  · obtain ⟨v, pl, ts, u, rfl, hd, fine, hu, q⟩ := h
    obtain ⟨t, a, b, rfl, ht, ha⟩ := pl0_of hd
    refine ⟨_, (pss_cons (ps_expr (pe_c Ccheck_places hr (by decide) rfl (pa_cons (pv 0) (pa_cons (pe_tup (pa_cons (pv 1) pa_nil)) pa_nil))))
      (pss_cons (ps_asg (pe_c Cwalk_from hr (by decide) rfl (pa_cons (pv 0) (pa_cons (pv 1) pa_nil))) (pg_tup rfl (pgs_cons (pg_name (i := 2) sc_lengths_from.nd rfl (.inl rfl)) (pgs_cons (pg_name (i := 3) sc_lengths_from.nd rfl (.inr rfl)) pgs_nil))))
      (pss_one (ps_ret (pe_tupleOf (by rfl) T.tuple (pe_lc (own := [("name", 4)]) (g := gName 4) (tt := tYes) rfl sc_lengths_from.nd (pi_tup (pe_ix ix_tup (pv 0) pe_int (fun _ _ => rfl))) (blkOk_by (N := N_lengths_from) (sc := defScope s_lengths_from) (by decide +kernel)) (fun _ _ _ _ _ => pg_name (i := 4) sc_lengths_from.nd rfl (Or.inl rfl)) (fun _ _ _ _ _ => pts_nil) (fun _ _ _ _ _ => (pe_dget (hu_of hr) (pv 3) (pv 4) (fun _ _ => rfl))))))))), ?_⟩
    refine ⟨_, rfl, _, rfl, (by show 1 ≤ sizeLine; decide), fun p np => ?_⟩
    have s1 := same_new (o := .tup [.str (S u)]) (Same.refl H) np
    refine ⟨.ref t, p, pl, [u], ts, rfl, Dt.keep (TK.of s1) hd, upd_same, fun x hx => by rw [List.mem_singleton.mp hx]; exact hu, ?_⟩
    refine ⟨_, rfl, _, rfl, .ref t, pl, ts, u, rfl, Dt.keep (TK.of s1) hd, fine, hu, fun H1 g bk ln fs prev S1 W => ?_⟩
    have s2 := s1.trans S1
    refine ⟨g, _, rfl, SqT.of W.pair, rfl, _, _, rfl, _, _, rfl, rfl, ?_⟩
    refine ⟨_, rfl, t, _, 0, .ref a, rfl, rfl, SqT.of (s2 _ _ ht), atI_nat (j := 0) rfl, a, rfl, ⟨_, (ha.same s2).sq⟩, fun D nD => ?_⟩
    have Da : a ≠ D := (ha.same s2).ne nD
    have Dl : ln ≠ D := ne_of_none W.lens nD
    refine lc_tup (K := K) (a := a) (xs := (pl.map S).map V.str) (fun i H' => H' = upd H1 D (.lst ((pl.take i).map fun x => .int (dist ts u x)))) rfl (fun i H' _ hP => ?_) (fun i x H' hi hP => ?_) (fun H' hP => ?_)
    · rw [hP]
      exact ((ha.same s2).updN Da).sq
    · subst hP
      have pl1 := fine.len
      rw [List.getElem?_map, List.getElem?_map] at hi
      cases el : pl[i]? with
      | none =>
        rw [el] at hi
        cases hi
      | some l =>
        rw [el] at hi
        have ex : x = .str (S l) := (Option.some.inj hi).symm
        subst ex
        refine ⟨rfl, _, rfl, _, rfl, ln, .int (dist ts u l), rfl, lens_body W (List.mem_of_getElem? el) (upd_ne Dl), _, upd_same, by rw [List.length_map, List.length_take]; exact sz_lt (by omega), ?_⟩
        rw [upd_upd, List.take_add_one, el, List.map_append]
        rfl
    · subst hP
      rw [List.length_map, List.length_map, List.take_length]
      have s3 := same_new (o := .lst (pl.map fun x => V.int (dist ts u x))) s2 nD
      refine .inl ⟨D, _, rfl, SqL.of upd_same, fun r nr => ?_⟩
      exact q _ r (same_new s3 nr) (s3.free nr) upd_same
end
end Far

namespace Far
open PySem PySem.Spec PyProof.Rows L2
open C8 (pss_cut tCut)
open SX (S)
abbrev s_length_between : Stmt := topS 8
abbrev N_length_between : List Str := ["tree", "one", "other", "_", "lengths"]
theorem sc_length_between : FnScope N_length_between ["tree", "one", "other"] (defScope s_length_between) := ⟨rfl, rfl, rfl, by decide +kernel, rfl, by decide +kernel, by decide +kernel⟩
section
variable {P : Program} {w : World} {K : PySem.W.Frag} {mg : Str → Option Value} {base : Heap}
def spLen : Sp := fun vs H Q _ => ∃ (v : V) (pl : List Nm) (ts : List Tie) (u x : Nm), vs = [v, .str (S u), .str (S x)] ∧ Dt H v (treeD pl ts) ∧ Fine pl ts ∧ u ∈ pl ∧ x ∈ pl ∧ ∀ H' : Hp, Same H H' → Q (.int (dist ts u x)) H'
theorem ok_length_between {f : Addr} {fd : FuncData} (F : Fun K "length_between" "length_between" s_length_between f fd) (Ccheck_places : Cal P w K mg base 1 "check_places" spCheck) (Cwalk_from : Cal P w K mg base 2 "walk_from" spWalk) : FnOk P w K mg base CX0 3 f fd ["tree", "one", "other"] spLen := by
  refine F.ok sc_length_between (fun vs H Q E h => ?_) (fun cdv A outer s H vs Q E hr h => ?_)
  · obtain ⟨v, pl, ts, u, x, rfl, _⟩ := h
    rfl
  · obtain ⟨v, pl, ts, u, x, rfl, hd, fine, hu, hx, q⟩ := h
    refine ⟨_, (pss_cons (ps_expr (pe_c Ccheck_places hr (by decide) rfl (pa_cons (pv 0) (pa_cons (pe_tup (pa_cons (pv 1) (pa_cons (pv 2) pa_nil))) pa_nil))))
      (pss_cons (ps_asg (pe_c Cwalk_from hr (by decide) rfl (pa_cons (pv 0) (pa_cons (pv 1) pa_nil))) (pg_tup rfl (pgs_cons (pg_name (i := 3) sc_length_between.nd rfl (.inl rfl)) (pgs_cons (pg_name (i := 4) sc_length_between.nd rfl (.inl rfl)) pgs_nil))))
      (pss_one (ps_ret (pe_dget (hu_of hr) (pv 4) (pv 2) (fun _ _ => rfl)))))), ?_⟩
    refine ⟨_, rfl, _, rfl, _, rfl, (by show 2 ≤ sizeLine; decide), fun p np => ?_⟩
    have s1 := same_new (o := .tup [.str (S u), .str (S x)]) (Same.refl H) np
    refine ⟨v, p, pl, [u, x], ts, rfl, Dt.keep (TK.of s1) hd, upd_same, fun y hy => ?_, ?_⟩
    · rcases List.mem_cons.mp hy with z | z
      · exact z ▸ hu
      · exact (List.mem_singleton.mp z) ▸ hx
    refine ⟨_, rfl, _, rfl, v, pl, ts, u, rfl, Dt.keep (TK.of s1) hd, fine, hu, fun H1 g bk ln fs prev S1 W => ?_⟩
    refine ⟨g, _, rfl, SqT.of W.pair, rfl, _, _, rfl, _, _, rfl, rfl, ?_⟩
    exact ⟨_, rfl, _, rfl, ln, _, rfl, lens_body W hx rfl, q H1 (s1.trans S1)⟩
end
abbrev s_way_between : Stmt := topS 7
abbrev N_way_between : List Str := ["tree", "one", "other", "back", "_", "way"]
theorem sc_way_between : FnScope N_way_between ["tree", "one", "other"] (defScope s_way_between) := ⟨rfl, rfl, rfl, by decide +kernel, rfl, by decide +kernel, by decide +kernel⟩
section
variable {P : Program} {w : World} {K : PySem.W.Frag} {mg : Str → Option Value} {base : Heap}
def spWay : Sp := fun vs H Q _ => ∃ (v : V) (pl : List Nm) (ts : List Tie) (u x : Nm), vs = [v, .str (S u), .str (S x)] ∧ Dt H v (treeD pl ts) ∧ Fine pl ts ∧ u ∈ pl ∧ x ∈ pl ∧ ∀ (H' : Hp) (q : Addr), Same H H' → H q = none → H' q = some (.tup (((path ts u x).map S).map V.str)) → Q (.ref q) H'
theorem path_len {pl : List Nm} {ts : List Tie} (F : Fine pl ts) {u x : Nm} (hu : u ∈ pl) (hx : x ∈ pl) : (path ts u x).length ≤ 1000 := by
  have w := F.tree.the_way hu hx
  have := nodup_sub_len _ pl w.nodup (w.inside (fun e he => let ⟨a, b, _⟩ := F.tree.ties e he; ⟨a, b⟩) hu)
  have := F.len
  omega
theorem ok_way_between {f : Addr} {fd : FuncData} (F : Fun K "way_between" "way_between" s_way_between f fd) (T : TxtW mg) (Ccheck_places : Cal P w K mg base 1 "check_places" spCheck) (Cwalk_from : Cal P w K mg base 2 "walk_from" spWalk) : FnOk P w K mg base CX0 3 f fd ["tree", "one", "other"] spWay := by
  refine F.ok sc_way_between (fun vs H Q E h => ?_) (fun cdv A outer s H vs Q E hr h => ?_)
  · obtain ⟨v, pl, ts, u, x, rfl, _⟩ := h
    rfl
  · obtain ⟨v, pl, ts, u, x, rfl, hd, fine, hu, hx, q⟩ := h
    have tr := fine.tree
    refine ⟨_, (pss_cons (ps_expr (pe_c Ccheck_places hr (by decide) rfl (pa_cons (pv 0) (pa_cons (pe_tup (pa_cons (pv 1) (pa_cons (pv 2) pa_nil))) pa_nil))))
      (pss_cons (ps_asg (pe_c Cwalk_from hr (by decide) rfl (pa_cons (pv 0) (pa_cons (pv 2) pa_nil))) (pg_tup rfl (pgs_cons (pg_name (i := 3) sc_way_between.nd rfl (.inl rfl)) (pgs_cons (pg_name (i := 4) sc_way_between.nd rfl (.inl rfl)) pgs_nil))))
      (pss_cons (ps_set (i := 5) sc_way_between.nd rfl (.inl rfl) (pe_lst (pa_cons (pv 1) pa_nil)))
      (pss_cut (ps_while PassesOwn.never (pt_cmpR op_ne (pe_ix ix_list (pv 5) (pe_un un_neg pe_int) (fun _ _ => rfl)) (pv 2) (nomark _))
        (pss_one (ps_expr (pe_bm PySem.F.plainAttrs_list PySem.F.slot_list_append PySem.F.type_list_append mt_append (pv 5) (pa_cons (pe_dget (hu_of hr) (pv 3) (pe_ix ix_list (pv 5) (pe_un un_neg pe_int) (fun _ _ => rfl)) (fun _ _ => rfl)) pa_nil)))))
      (pss_one (ps_ret (pe_tupleOf (by rfl) T.tuple (pv 5)))))))), ?_⟩
    refine ⟨_, rfl, _, rfl, _, rfl, (by show 2 ≤ sizeLine; decide), fun p np => ?_⟩
    have s1 := same_new (o := .tup [.str (S u), .str (S x)]) (Same.refl H) np
    refine ⟨v, p, pl, [u, x], ts, rfl, Dt.keep (TK.of s1) hd, upd_same, fun y hy => ?_, ?_⟩
    · rcases List.mem_cons.mp hy with z | z
      · exact z ▸ hu
      · exact (List.mem_singleton.mp z) ▸ hx
    refine ⟨_, rfl, _, rfl, v, pl, ts, x, rfl, Dt.keep (TK.of s1) hd, fine, hx, fun H1 g bk ln fs prev S1 W => ?_⟩
    have s2 := s1.trans S1
    refine ⟨g, _, rfl, SqT.of W.pair, rfl, _, _, rfl, _, _, rfl, rfl, ?_⟩
    refine ⟨_, rfl, (by show 1 ≤ sizeLine; decide), fun wy nwy => ?_⟩
    have bw : bk ≠ wy := ne_of_none W.back nwy
    refine ⟨fun σ' H' => σ' = [some v, some (.str (S u)), some (.str (S x)), some (.ref bk), some (.ref ln), some (.ref wy)] ∧ H' = upd H1 wy (.lst (((path ts u x).map S).map V.str)), ?_, fun σ' H' hM => ?_⟩
    · refine ⟨fun m σ' H' => ∃ (w0 : List Nm) (y : Nm), σ' = [some v, some (.str (S u)), some (.str (S x)), some (.ref bk), some (.ref ln), some (.ref wy)] ∧ y ∈ pl ∧ H' = upd H1 wy (.lst ((((w0 ++ [y])).map S).map V.str)) ∧ w0 ++ (path ts x y).reverse = (path ts x u).reverse ∧ m = (path ts x y).length, ⟨_, [], u, rfl, hu, rfl, rfl, rfl⟩, ?_⟩
      rintro m σ' H' ⟨w0, y, rfl, hy, rfl, hw, rfl⟩
      have e1 : ((w0 ++ [y]).map S).map V.str = (w0.map S).map V.str ++ [.str (S y)] := by
        rw [List.map_append, List.map_append]
        rfl
      rw [e1]
      refine ⟨_, rfl, 1, rfl, wy, _, -1, .str (S y), rfl, rfl, SqL.of upd_same, atI_last _ _, _, rfl, rfl, _, rfl, ?_⟩
      have lw : w0.length ≤ 1000 := by
        have := congrArg List.length hw
        rw [List.length_append, List.length_reverse, List.length_reverse] at this
        have := path_len fine hx hu
        omega
      by_cases e : y = x
      · subst e
        rw [decide_eq_true rfl]
        refine iteF ⟨rfl, ?_⟩
        rw [← e1, (tr.dist_self y).2] at *
        have e3 : w0 ++ [y] = path ts u y := by
          rw [(tr.dist_symm hx hu).2, ← hw]
          rfl
        rw [e3]
      · rw [decide_eq_false (fun z => e (SX.S_inj (V.str.inj z)))]
        obtain ⟨p1, p2⟩ := W.pr y ((W.all y).mpr hy) e
        refine iteT ⟨fun σ' H' => ∃ (w0' : List Nm) (y' : Nm), σ' = [some v, some (.str (S u)), some (.str (S x)), some (.ref bk), some (.ref ln), some (.ref wy)] ∧ y' ∈ pl ∧ H' = upd H1 wy (.lst ((((w0' ++ [y'])).map S).map V.str)) ∧ w0' ++ (path ts x y').reverse = (path ts x u).reverse ∧ (path ts x y').length < (path ts x y).length, ?_, ?_⟩
        · rintro σ' H' ⟨w0', y', h1, h2, h3, h4, h5⟩
          exact ⟨_, h5, w0', y', h1, h2, h3, h4, rfl⟩
        · have hb : DGet (upd H1 wy (.lst ((w0.map S).map V.str ++ [.str (S y)]))) bk (.str (S y)) (some (.str (S (prev y)))) := by
            have e5 : (upd H1 wy (.lst ((w0.map S).map V.str ++ [V.str (S y)]))) bk = some (.dK (dkm fs fun x => .str (S (prev x)))) := by
              rw [upd_ne bw]
              exact W.back
            have := DGet.k (k := Sum.inr (S y)) e5
            rw [dkm_get ((W.all y).mpr hy)] at this
            exact this
          refine ⟨_, rfl, .inl ⟨rfl, _, SqL.of upd_same⟩, _, rfl, _, rfl, 1, rfl, wy, _, -1, .str (S y), rfl, rfl, SqL.of upd_same, atI_last _ _, bk, _, rfl, hb, wy, _, _, rfl, rfl, upd_same, by rw [List.length_append, List.length_map, List.length_map]; exact sz_lt (by simp; omega), ?_⟩
          refine ⟨w0 ++ [y], prev y, rfl, (W.all _).mp p1, ?_, ?_, ?_⟩
          · have e6 : (((w0 ++ [y]) ++ [prev y]).map S).map V.str = ((w0 ++ [y]).map S).map V.str ++ [.str (S (prev y))] := by
              rw [List.map_append, List.map_append]
              rfl
            rw [upd_upd, ← e1, e6]
          · rw [← hw, p2, List.reverse_append]
            simp
          · rw [p2]
            simp
    · obtain ⟨rfl, rfl⟩ := hM
      have s3 := same_new (o := .lst (((path ts u x).map S).map V.str)) s2 nwy
      refine ⟨_, rfl, .inl ⟨wy, _, rfl, SqL.of upd_same, fun r nr => ?_⟩⟩
      exact q _ r (same_new s3 nr) (s3.free nr) upd_same
end
end Far

namespace Far
open PySem PySem.Spec PyProof.Rows L2
section
variable {X : Cx} {o e : Expr} {es : List Expr} {to te : TE} {ta : TA} {f : Str} {p p' p1 p2 pos : Pos}
/-- C0.__init__(self, ..), C0 an own class over ValueError without an __init__ of its own -/
theorem pe_owninit {x : Str} {C0 : Addr} {pl : Sem Bool} (hg : Gl X x) (hm : X.mg x = some (.ref C0)) (rd : PySem.W.readsIn X.K C0 (.type "type") = true) (ga : PySem.W.specialIn X.K (.ref C0) "__getattribute__" = some (some (.builtin "type.__getattribute__")))
    (vV : PySem.W.findCls X.K (.ref C0) (.type "type") "__init__" = some (.val (.builtin "ValueError.__init__"))) (ha : PA X (e :: es) ta)
    (hdb : (x == ("__debug__" : Str)) = false := by decide)
    (hc : eval (.Call (.Attribute (.Name x p1) "__init__" p2) (e :: es) [] pos) X.env = (do
      let ov ← eval (.Name x p1) X.env
      standAt p2.atName
      let (f, first) ← holding [ov] (getMethod ov "__init__" pl)
      callWith pos f first (backTo pos (starEach (e :: es) X.env)) (backToKw pos (keywordEach [] X.env))) := by rfl)
    (he : starEach (e :: es) X.env = (false, eval e X.env) :: starEach es X.env := by rfl) (hpl : (backTo pos (starEach es X.env)).any (·.1) = false := by rfl) :
    PE X (.Call (.Attribute (.Name x p1) "__init__" p2) (e :: es) [] pos) (tVeI X.K ta) := by
  refine ⟨fun pins s σ H Q I h => ?_⟩
  refine PySem.W.methodCall_KW (ld_glob I hg hm ?_ hdb) hc
  refine PySem.W.method_cls I.kIn ga ?_
  refine PySem.W.cls_value I.kIn rd vV (by decide +kernel) ?_
  show wpAny _ _ (callWith pos (Value.builtin "ValueError.__init__") [] (backTo pos (starEach (e :: es) X.env)) []) _ _ _
  refine PyProof.Rows.callWith_method1 (thn (ha.run pos pins _ σ H _ (I.tok _) h) fun us s1 ⟨vs, H1, I1, r1, a, C, ws, ev, hl, T, ea, q⟩ => ?_) he hpl
  subst ev
  cases r1 with
  | @cons _ u0 _ ur ra rw' =>
    obtain rfl : u0 = Value.ref a := ra
    have hlen : ur.length ≤ sizeLine := by
      rw [← Paired.length rw', sizeLine_eq]
      omega
    exact oinit_ok T I1 ea hlen fun s' J => ⟨.non, H1, J, rfl, q⟩
end
end Far

namespace Far
open PySem PySem.Spec PyProof.Rows L2
/-! ### except x as e: name = e, the error kept behind the suite -/
/-- an error that was caught: of the class cls, its own dict at d -/
def caughtO (a : Addr) (cls : Value) (d : Option Addr) : HO := .ext fun h => ∃ (oe : Obj) (vs : Array Value), h.get? a = some oe ∧ Zc cls d oe ∧ oe.data = .fields vs
theorem caughtO_ok {P : Program} {w : World} {H : Hp} {h : Heap} {a : Addr} {cls : Value} {d : Option Addr} {oe : Obj} {vs : Array Value} (e : h.get? a = some oe) (z : Zc cls d oe) (hd : oe.data = .fields vs) : ObjOk P w H h a (caughtO a cls d) :=
  ⟨⟨oe, vs, e, z, hd⟩, ⟨oe, e⟩, fun _ _ ⟨o, v, q, r⟩ k => ⟨o, v, k o q, r⟩⟩
theorem caughtO_at {P : Program} {w : World} {H : Hp} {h : Heap} {a : Addr} {cls : Value} {d : Option Addr} (hok : HOk P w H h) (he : H a = some (caughtO a cls d)) : ∃ (oe : Obj) (vs : Array Value), h.get? a = some oe ∧ Zc cls d oe ∧ oe.data = .fields vs := by
  have x : ObjOk P w H h a (.ext fun h => ∃ (oe : Obj) (vs : Array Value), h.get? a = some oe ∧ Zc cls d oe ∧ oe.data = .fields vs) := hok a _ he
  exact x.1
section
variable {X : Cx} {pins : List (Addr × Obj)} {σ : L2.St} {H : Hp} {s : Shared}
/-- an object that was pinned, new in this call, is tracked from here on -/
theorem adopt {a : Addr} {oe : Obj} {vs : Array Value} {cls : Value} {d : Option Addr} (I : Inv X ((a, oe) :: pins) σ H s) (z : Zc cls d oe) (hd : oe.data = .fields vs) (h0 : X.s_0.heap.get? a = none) (hp : ∀ p ∈ X.pn ++ pins, p.1 ≠ a) :
    Inv X pins σ (upd H a (caughtO a cls d)) s := by
  obtain ⟨pa, na, nL, nF, nc⟩ := I.pin (a, oe) (List.mem_append_right _ List.mem_cons_self)
  have pa : s.heap.get? a = some oe := pa
  have na : H a = none := na
  have nL : a ≠ X.env.locals := nL
  refine ⟨I.ok, I.os, I.bare, ⟨I.base.keep, I.base.slot, fun b o e n hx => ?_, I.base.there, fun b xs e => ?_, fun b o u e => ?_, fun b ps e => ?_⟩, I.loc, I.cell, ?_, fun x c e => ?_, fun p hq => ?_, ?_, I.len⟩
  · have hb : b ≠ a := fun q => by rw [q, h0] at e; cases e
    rw [upd_ne hb]
    exact I.base.free b o e n hx
  · have q := I.base.tups b xs e
    rw [upd_ne (ne_of_none q na)]
    exact q
  · have q := I.base.frzs b o u e
    rw [upd_ne (ne_of_none q na)]
    exact q
  · obtain ⟨more, q⟩ := I.base.tbls b ps e
    refine ⟨more, ?_⟩
    rw [upd_ne (ne_of_none q na)]
    exact q
  · rw [upd_ne (Ne.symm nL)]
    exact I.free
  · obtain ⟨v, hc⟩ := I.cell x c e
    have hb : c ≠ a := fun q => by
      obtain ⟨o, ho, hcl⟩ := hc
      rw [q, pa] at ho
      cases ho
      exact nc v (by first | exact hcl | exact hcl.1 | exact hcl.2)
    rw [upd_ne hb]
    exact I.freeC x c e
  · have m : p ∈ X.pn ++ ((a, oe) :: pins) := by
      rcases List.mem_append.mp hq with h | h
      · exact List.mem_append_left _ h
      · exact List.mem_append_right _ (List.mem_cons_of_mem _ h)
    obtain ⟨q1, q2, q3⟩ := I.pin p m
    exact ⟨q1, by rw [upd_ne (hp p hq)]; exact q2, q3⟩
  · exact I.hok.laidN (fun _ _ q => q) na (caughtO_ok pa z hd)
end
/-- what the clause 'except x as n: m = n' wishes of an exception of the body: slot i is n's, j is m's -/
def wKeep (K : PySem.W.Frag) (c : Value) (i j : Nat) (Wout : WX) (D : Ends) : WX := fun cls d σ H =>
  ∃ b, PySem.W.exmOne K cls c = some b ∧ (b = true → ∀ a, H a = none → D.nx (((σ.set i (some (.ref a))).set j (some (.ref a))).set i none) (upd H a (caughtO a cls d))) ∧
    (b = false → Wout cls d σ H)
section
variable {X : Cx} {x n : Str} {c : Value} {i j : Nat} {body : List Stmt} {b₀ : Stmt} {np pos pos' : Pos} {tb : WX → TS} {ts : TS} {Wout : WX}
theorem ps_try_keep (hs : X.stack = X.env :: X.outer) (hf : X.env.frame = some X.env.locals) (hex : X.ex = []) (hN : X.N.Nodup) (hi : X.N[i]? = some n) (hln : X.env.kindOf n = some .local) (hc : Names X x c) (tk : Takes X Wout)
    (hb : ∀ (W : WX) (pn : List (Addr × Obj)) (xe : Value → Shared → Prop), Takes (X.tr pn xe) W → PassesOwn (model X.prog X.w) X.A X.env xe → PSs (X.tr pn xe) body (tb W))
    (hsu : ∀ (a : Addr) (oe : Obj) (cls : Value) (d : Option Addr) (pn : List (Addr × Obj)), Zc cls d oe → (∃ vs, oe.data = .fields vs) → PSs (X.suite a ((a, oe) :: pn)) [b₀] ts)
    (hts : ∀ (D : Ends) (σ : L2.St) (H : Hp) (a : Addr), σ[i]? = some (some (.ref a)) → D.nx (σ.set j (some (.ref a))) H → ts D σ H) :
    PS X (.Try body [.ExceptHandler (some (.Name x np)) (some n) [b₀] pos'] [] [] pos) (fun D σ H => tb (wKeep X.K c i j Wout D) D σ H) := by
  refine ⟨fun pins s σ H D I h => ?_⟩
  have ok := I.ok
  have hfr : X.A.frames = some (X.env :: X.outer) := by rw [ok.frames, hs]
  have hloc : Loc X.env.scope n := .inl hln
  refine wpAny_Try_except ?_
  refine wpAny_mono ((hb (wKeep X.K c i j Wout D) (X.pn ++ pins) (fun e s₁ => wpAny (model X.prog X.w) X.A (noteFrame e X.env) (fun _ s₂ => wpAny (model X.prog X.w) X.A (setFlight e none) (fun _ s₃ =>
    wpAny (model X.prog X.w) X.A (handleBy e X.env [.ExceptHandler (some (.Name x np)) (some n) [b₀] pos']) (SP X pins D) X.xe s₃) X.xe s₂) X.xe s₁) (fun u s' xx => ?_) PassesOwn.looking).run [] s σ H D (I.toTry _) h) (fun f s1 hsp => ?_) (fun e s1 he => he)
  · obtain ⟨a, B, sI, pins', σ', H', cls, d, rfl, J', nb, up, sky, na, os, ag, b, hb1, hyes, hno⟩ := xx
    have J : Inv X pins σ' H' sI := J'.ofTry ok
    have sky' : Sky B (X.env :: X.outer) a (Zc cls d) X.env.locals s'.heap := by rw [← hs]; exact sky
    show wpAny _ X.A (noteFrame (.ref a) X.env) _ _ _
    refine Sky.land Zc.steady hfr hf sky' fun h3 fl3 up3 => ?_
    have J3 : Inv X pins σ' H' { s' with heap := h3 } := J.landed nb fl3.1 (up.trans up3) os ag
    obtain ⟨oe3, vs3, he3, hz3, hd3⟩ := fl3.there
    have notFr : ∀ {h : Heap} {o : Obj} {vs : Array Value}, h.FunFrames B (X.env :: X.outer) → h.get? a = some o → o.data = .fields vs → a ∉ frs (X.env :: X.outer) := fun {h o vs} ff e dd hm => by
      obtain ⟨_, o', e', hnf⟩ := ff.mem hm
      rw [e] at e'; cases e'
      exact hnf _ dd
    have nfr := notFr fl3.2.2.1 he3 hd3
    have nL : a ≠ X.env.locals := fun z => nfr (List.mem_filterMap.mpr ⟨X.env, List.mem_cons_self, by rw [hf, z]⟩)
    have nF : a ∉ X.fs := fun hm => by
      obtain ⟨e, he, q⟩ := List.mem_filterMap.mp hm
      exact nfr (List.mem_filterMap.mpr ⟨e, List.mem_cons_of_mem _ he, q⟩)
    have nB : B.get? a = none := fl3.2.1
    have nI : sI.heap.get? a = none := by
      cases q : sI.heap.get? a with
      | none => rfl
      | some o =>
        have := nb a o q (by rw [hs]; exact nfr)
        rw [nB] at this
        cases this
    have n0 : X.s_0.heap.get? a = none := by
      cases q : X.s_0.heap.get? a with
      | none => rfl
      | some o =>
        obtain ⟨o', q'⟩ := J.base.there a o q (by rw [hex]; intro z; cases z)
        rw [nI] at q'
        cases q'
    have nP : ∀ p ∈ X.pn ++ pins, p.1 ≠ a := fun p hp z => by
      have := (J.pin p hp).1
      rw [z, nI] at this
      cases this
    have S3 := J3.suite he3 hd3 na nL nF
    refine wpAny_handleBy_cons (codeAny_handlers_test ?_) (by intro q; cases q)
    have LT : PySem.W.Looks (model X.prog X.w) h3 (typeOf (.ref a)) cls := fun A Q E s k q => wpAny_typeOf_ref (k _ _ he3) (by rw [hz3.1]; exact q)
    have LM := PySem.W.exm_one (M := model X.prog X.w) (J3.kIn) LT hb1
    have test : ∀ {Q : Value → Shared → Prop} {E : Value → Shared → Prop}, Q c { s' with heap := h3 } → wpAny (model X.prog X.w) (X.A.mark (some (.ref a))) (eval (.Name x np) X.env) Q E { s' with heap := h3 } := fun {Q E} q => by
      obtain ⟨hg, hdbg, hm | ⟨hm, hv, hnn⟩⟩ := hc
      · exact ld_glob (X := X.suite a ((a, oe3) :: (X.pn ++ pins))) S3 hg hm q hdbg
      · exact ld_blt (X := X.suite a ((a, oe3) :: (X.pn ++ pins))) S3 hg hm hv q hnn hdbg
    refine test (LM.here ?_)
    cases b with
    | true =>
      refine codeAny_handlers_suite_as ?_
      refine HandSPX.lands_againZ fl3 fun h4 fl4 up4 => ?_
      have J4 : Inv X pins σ' H' { s' with heap := h4 } := J.landed nb fl4.1 ((up.trans up3).trans up4) os ag
      obtain ⟨oe4, vs4, he4, hz4, hd4⟩ := fl4.there
      have S4 := J4.suite he4 hd4 na nL nF
      refine store_ok (X := X.suite a ((a, oe4) :: (X.pn ++ pins))) (v := .ref a) S4 hN hi hloc rfl (fun s5 S5 => ?_) (.inr hln)
      have li : i < σ'.length := by
        rw [J4.len]
        exact (List.getElem?_eq_some_iff.mp hi).1
      have run := (hsu a oe4 cls d (X.pn ++ pins) hz4 ⟨_, hd4⟩).run [] s5 (σ'.set i (some (.ref a))) H' { nx := fun σ6 H6 => σ6 = (σ'.set i (some (.ref a))).set j (some (.ref a)) ∧ H6 = H', rt := fun _ _ => False, bk := fun _ _ => False, ct := fun _ _ => False } S5
        (hts _ _ _ a (by simp [li]) ⟨rfl, rfl⟩)
      refine wpAny_mono run (fun f s6 hsp => ?_) (fun _ _ z => False.elim z)
      have end_ : ∀ {σ6 : L2.St} {H6 : Hp} {Q : Shared → Prop}, Inv (X.suite a ((a, oe4) :: (X.pn ++ pins))) [] σ6 H6 s6 → (∀ s7, Inv X ((a, oe4) :: pins) (σ6.set i none) H6 s7 → Q s7) →
          wpAny (model X.prog X.w) X.A (do bindName X.env n .none; unbindBehindTheSuite X.env n pos') (fun _ s7 => Q s7) X.xe s6 := fun {σ6 H6 Q} S6 hq => by
        have S6' : Inv X ((a, oe4) :: pins) σ6 H6 s6 := ⟨ok, S6.os, S6.bare, S6.base, S6.loc, S6.cell, S6.free, S6.freeC, fun p hp => S6.pin p (by
          refine List.mem_append_left _ ?_
          show p ∈ (a, oe4) :: (X.pn ++ pins)
          rcases List.mem_append.mp hp with h | h
          · exact List.mem_cons_of_mem _ (List.mem_append_left _ h)
          · rcases List.mem_cons.mp h with h | h
            · rw [h]; exact List.mem_cons_self
            · exact List.mem_cons_of_mem _ (List.mem_append_right _ h)), S6.hok, S6.len⟩
        exact gone_ok S6' hN hi hln hq
      cases f with
      | next =>
        obtain ⟨σ6, H6, S6, e1, e2⟩ := hsp
        subst e1 e2
        exact end_ S6 fun s7 J7 => ⟨_, _, adopt J7 hz4 hd4 n0 nP, hyes rfl a na⟩
      | brk =>
        obtain ⟨σ6, H6, S6, q6⟩ := hsp
        exact q6.elim
      | cont =>
        obtain ⟨σ6, H6, S6, q6⟩ := hsp
        exact q6.elim
      | ret u =>
        obtain ⟨v6, σ6, H6, S6, r6, q6⟩ := hsp
        exact q6.elim
    | false =>
      show wpAny _ X.A (handleBy (.ref a) X.env []) _ _ _
      refine wpAny_handleBy_nil ?_
      obtain ⟨k1, k2, k3, oe, vs, T, oT, ts', he, hz, hd, h1, hr⟩ := id fl3
      unfold PySem.passOn
      refine wpAny_bind (wpAny_field he hd h1 ?_)
      rw [if_neg (show ¬ ((Value.ref T == Value.none) = true) from by simp)]
      have fin : wpAny (model X.prog X.w) X.A (setFlight (.ref a) X.env.frame) (fun _ s4 => wpAny (model X.prog X.w) X.A (throw (.ref a) : Sem Flow) (SP X pins D) X.xe s4) X.xe { s' with heap := h3 } := by
        rw [hf]
        refine HandSPX.setFlight_upZ fl3 fun h4 hh4 up4 => wpAny_throw (tk _ _ ?_)
        exact ⟨a, B, sI, pins, σ', H', cls, d, rfl, J, nb, (up.trans up3).trans up4, .inr (.inr (by rw [hs]; exact hh4)), na, os, ag, hno rfl⟩
      first
        | exact wpAny_bind (wpAny_pure (wpAny_bind fin))
        | exact wpAny_bind fin
  · cases f with
    | next =>
      obtain ⟨σ', H', J', q⟩ := hsp
      exact wpAny_execs_nil ⟨σ', H', J'.ofTry ok, q⟩
    | brk =>
      obtain ⟨σ', H', J', q⟩ := hsp
      exact ⟨σ', H', J'.ofTry ok, q⟩
    | cont =>
      obtain ⟨σ', H', J', q⟩ := hsp
      exact ⟨σ', H', J'.ofTry ok, q⟩
    | ret u =>
      obtain ⟨v, σ', H', J', r, q⟩ := hsp
      exact ⟨v, σ', H', J'.ofTry ok, r, q⟩
end
end Far

namespace Far
open PySem PySem.Spec PySem.Calls PyProof.Rows L2 PySem.W
section
variable {prog : Program} {w : World} {A : Around} {E : Value → Shared → Prop} {s : Shared} {K : Frag} {x D : Addr} {ox : Obj} {od : Option Obj}
theorem obj_data {C : Addr} {name : Str} {a g : Value} (hc : (clsIn K C).isSome = true) (ha : findIn K (.ref C) name = some (some a)) (hg : specialIn K a "__get__" = some (some g)) (ht : takesIn K a = some true) : findObj K C od name = some (.bind g a) := by
  obtain ⟨cd, hc⟩ := Option.isSome_iff_exists.mp hc
  unfold findObj
  rw [hc, Option.bind_some, ha, Option.bind_some]
  simp [hg, ht]
/-- the class of an own error that has a dict of its own -/
theorem cls_of_own {Q : Option Value → Shared → Prop} (T : ExcC K D) (X : K.In s.heap) (I : InstAt s.heap x ox D od) (h : Q (some (.ref D)) { s with toks := s.toks + 1 }) : wpAny (model prog w) A (getAttr? (.ref x) "__class__") Q E s := by
  have hf : findObj K D od "__class__" = some (.bind (.builtin "getset_descriptor.__get__") (.builtin "object.__class__")) := obj_data (by obtain ⟨cd, hc, _⟩ := any_some T.hd; rw [hc]; rfl) T.ha T.hn T.ht
  obtain ⟨hp, g, d, t, os⟩ := s
  have L0 := I.type (M := model prog w)
  have L1 := looks_findIn (M := model prog w) X T.hg
  have L2 := looks_findIn (M := model prog w) X T.hk
  have L3 := looks_find (M := model prog w) X I hf
  have sub : Looks (model prog w) hp (isInstance (.ref x) (.type "BaseException")) true := L0.andThen (looks_subIn X T.hs)
  have n0 : (false && onTheHeap (Value.builtin "BaseException.__getattribute__")) = false := rfl
  have n2 : (Value.builtin "BaseException.__getattribute__" == Value.builtin "object.__getattribute__") = false := by decide +kernel
  have n1 : (onTheHeap (Value.ref D) && Value.builtin "BaseException.__getattribute__" == Value.builtin "object.__getattribute__") = false := by rw [n2]; rfl
  unfold getAttr? getAttrBy? getAttrBy
  refine wpAny_bind (wpAny_mkText (wpAny_bind (wpAny_attempt (wpAny_holding (wpAny_bind (L0.at (wpAny_bind (L1.at ?_))))))))
  show wpAny _ _ (if (onTheHeap (Value.ref D) && Value.builtin "BaseException.__getattribute__" == Value.builtin "object.__getattribute__") = true then _ else _) _ _ _
  rw [n1, if_neg Bool.false_ne_true]
  unfold getAttrByItsOwn hookBefore
  refine wpAny_bind ?_
  rw [if_pos (show onTheHeap (Value.ref D) = true from rfl)]
  refine L2.at ?_
  refine wpAny_bind (wpAny_attempt (wpAny_holding ?_))
  unfold callGetattribute
  rw [n0, if_neg Bool.false_ne_true]
  unfold boundAndCalled
  rw [PySem.F.excAttr_ValueError.ga.bind (.ref x)]
  refine wpAny_bind (wpAny_pure ?_)
  show wpAny _ _ (call (.builtin "BaseException.__getattribute__") [.ref x, .str "__class__" t]) _ _ _
  refine wpAny_call (codeAny_call_builtin PySem.F.excAttr_ValueError.ga.plain PySem.F.entry_bexc_ga ?_)
  refine @check_slot (model prog w) _ _ ⟨hp, g, d, t + 1, os⟩ "BaseException.__getattribute__" "BaseException" "__getattribute__" (.ref x) [.str "__class__" t] [] _ (by decide +kernel) (by decide +kernel) sub (PySem.F.args_bexc_ga (.ref x) (.str "__class__" t)) ?_
  unfold Builtin.«object.__getattribute__»
  refine wpAny_bind (wpAny_of_eq (a := ((Value.ref x : Value), [Value.str "__class__" t])) (by first | rfl | (simp only [slotArgs]; rfl)) ?_)
  refine wpAny_bind (wpAny_pure (wpAny_bind (L0.at (wpAny_bind (L3.at ?_)))))
  show wpAny _ _ (holding [Value.builtin "object.__class__"] (call (.builtin "getset_descriptor.__get__") [.builtin "object.__class__", .ref x, .ref D]) >>= ret) _ _ _
  refine wpAny_bind (wpAny_holding (wpAny_call (class_get (s := ⟨hp, g, d, t + 1, os⟩) (ox := ox) (od := od) X I T.hm ?_)))
  refine wpAny_pure ?_
  show wpAny _ _ (handedOut (.ref D)) _ _ _
  rw [handedOut_of (v := .ref D) rfl]
  first
    | exact wpAny_pure (wpAny_pure h)
    | exact wpAny_pure h
    | exact wpAny_pure (wpAny_bind (wpAny_pure (wpAny_pure h)))
theorem kitx_own (T : ExcC K D) : KitX K (.ref x) (.ref D) (fun h => InstAt h x ox D od) where
  ty := fun _ _ _ I => I.type
  it := fun _ _ X _ => by
    obtain ⟨cdD, hcD, _⟩ := any_some T.hd
    unfold clsIn at hcD
    split at hcD
    · rename_i c' d' cd' sl' ho
      intro A' Q' E' s' k q
      unfold isType loadHead
      exact wpAny_bind (wpAny_loadPart (k _ _ (X _ _ ho)) (wpAny_pure q))
    · cases hcD
  ne := fun h tp dd its n sl X htp => by
    obtain ⟨cdD, hcD, _⟩ := any_some T.hd
    refine Bool.eq_false_iff.mpr fun q => ?_
    have e : D = tp := Value.ref.inj (beq_iff_eq.mp q)
    subst e
    unfold clsIn at hcD
    split at hcD
    · rename_i c' d' cd' sl' ho
      have z := (X _ _ ho).symm.trans htp
      cases z
    · cases hcD
  ca := fun X I k => cls_of_own T X I k
end
/-- an error that was caught, of the class at D, with its own dict at dd -/
def Caught (H : Hp) (a D dd : Addr) (fs : List (Str × V)) : Prop := H a = some (caughtO a (.ref D) (some dd)) ∧ H dd = some (.xd fs)
theorem Caught.same {H H' : Hp} {a D dd : Addr} {fs : List (Str × V)} (c : Caught H a D dd fs) (s : Same H H') : Caught H' a D dd fs := ⟨s _ _ c.1, s _ _ c.2⟩
section
variable {X : Cx} {pins : List (Addr × Obj)} {σ : L2.St} {H : Hp} {s : Shared}
theorem Caught.inst {a D dd : Addr} {fs : List (Str × V)} (c : Caught H a D dd fs) (I : Inv X pins σ H s) : ∃ (oe od : Obj) (mA : Str → Option Value), InstAt s.heap a oe D (some od) ∧ s.heap.get? dd = some od ∧ (∀ f, RelO (fs.lookup f) (mA f)) ∧ (∀ f, lookIn f od = some (mA f)) := by
  obtain ⟨oe, vs, ha, hz, hd⟩ := caughtO_at I.hok c.1
  have hx : ObjOk X.prog X.w H s.heap dd (.xd fs) := I.hok dd _ c.2
  obtain ⟨mA, hns, hr⟩ := hx
  obtain ⟨od, ho, hl⟩ := lookIn_ns hns
  exact ⟨oe, od, mA, ⟨ha, hz.1, by unfold PySem.W.notCls; rw [hd] <;> rfl, by rw [hz.2]; exact ho⟩, ho, hr, hl⟩
/-- isinstance(e, c), e a caught error that a name holds -/
def rIsC (K : PySem.W.Frag) : List V → Hp → VK → Prop := fun xs H Q => ∃ (a D dd : Addr) (fs : List (Str × V)) (c : V) (cv : Value) (b : Bool), xs = [.ref a, c] ∧ Caught H a D dd fs ∧ ExcC K D ∧ ClsV c cv ∧ PySem.W.kitOne K (.ref D) cv = some b ∧ Q (.bl b) H
theorem call_isC {X : Cx} {K : PySem.W.Frag} (eK : X.K = K := by rfl) : CallR X (.builtin "isinstance") (rIsC K) := by
  subst eK
  intro pins s σ H xs us Q I r h
  obtain ⟨a, D, dd, fs, c, cv, b, rfl, hC, T, k, e, q⟩ := h
  obtain ⟨u1, u2, rfl, r1, r2⟩ := vals2 r
  have e2 := k.eq r2
  subst e2
  cases (show u1 = Value.ref a from r1)
  obtain ⟨oe, od, mA, J, _⟩ := hC.inst I
  exact PySem.W.kia_one (kitx_own T) I.kIn J e (fun z => nomatch z) fun tk => ⟨.bl b, H, I.kept (t' := tk) fun _ _ z => z, rfl, q⟩
/-- e.f, e a caught error that a name holds -/
def tCf (K : PySem.W.Frag) (f : Str) (te : TE) : TE := fun σ H Q => te σ H fun x H1 => ∃ (a D dd : Addr) (fs : List (Str × V)) (v : V), x = .ref a ∧ Caught H1 a D dd fs ∧ XfC K D ∧ PySem.W.findIn K (.ref D) f = some none ∧ fs.lookup f = some v ∧ Q v H1
theorem pe_cf {X : Cx} {e : Expr} {te : TE} {pos : Pos} {n : Str} (he : PE X e te) (hb : attributeBase e n X.env (eval e X.env) = eval e X.env := by rfl) : PE X (.Attribute e n pos) (tCf X.K n te) := by
  refine ⟨fun pins s σ H Q I h => ?_⟩
  refine attr_of hb (thn (he.run pins s σ H _ I h) fun u s1 hh => ?_)
  obtain ⟨x, H1, I1, rx, a, D, dd, fs, v, ex, hC, T, hno, l, q⟩ := hh
  subst ex
  obtain rfl : u = Value.ref a := rx
  obtain ⟨oe, od, mA, J, ho, hr, hl⟩ := hC.inst I1
  obtain ⟨u, hu, ru⟩ := RelO.some_of (v := v) (o := mA n) (by rw [← l]; exact hr n)
  exact HandSPX.exc_get I1.kIn J T.ga T.gg T.exC (PySem.W.findObj_own T.hdC hno rfl (by rw [hl, hu])) (handed_of ru) ⟨v, H1, I1.tok _, ru, q⟩
end
end Far

namespace Far
open PySem PySem.Spec PyProof.Rows L2
open C8 (pss_cut tCut)
open SX (S)
/-- what the written part says of NoPlace (at C), of its __init__ (at fI) and of FarError (at CF) -/
structure NpC (K : PySem.W.Frag) (mg : Str → Option Value) (C fI CF : Addr) : Prop where
  oex : OexC K C
  iC : PySem.W.findIn K (.ref C) "__init__" = some (some (.ref fI))
  tI : PySem.W.typeIn K (.ref fI) = some (.type "function")
  xf : XfC K C
  exc : ExcC K C
  no : PySem.W.findIn K (.ref C) "name" = some none
  gC : mg "NoPlace" = some (.ref C)
  gF : mg "FarError" = some (.ref CF)
  rd : PySem.W.readsIn K CF (.type "type") = true
  ga : PySem.W.specialIn K (.ref CF) "__getattribute__" = some (some (.builtin "type.__getattribute__"))
  vF : PySem.W.findCls K (.ref CF) (.type "type") "__init__" = some (.val (.builtin "ValueError.__init__"))
def clsBody (s : Stmt) : List Stmt := match s with
  | .ClassDef _ _ _ b _ _ _ _ _ _ _ => b
  | _ => []
abbrev s_np_init : Stmt := (clsBody (topS 5)).getD 0 (.Pass ⟨0, 0, 0, 0⟩)
abbrev N_np_init : List Str := ["self", "name"]
theorem sc_np_init : FnScope N_np_init ["self", "name"] (defScope s_np_init) := ⟨rfl, rfl, rfl, by decide +kernel, rfl, by decide +kernel, by decide +kernel⟩
section
variable {P : Program} {w : World} {K : PySem.W.Frag} {mg : Str → Option Value} {base : Heap} {C fI CF : Addr}
def spInit (K : PySem.W.Frag) (C : Addr) : Sp := fun vs H Q _ => ∃ (a : Addr) (nm : Str), vs = [.ref a, .str nm] ∧ nm.length ≤ 1000 ∧ H a = some (exo a C none) ∧ ∀ d : Addr, H d = none → d ≠ a → Q .non (upd (upd H d (exd d [("name", .str nm)])) a (exo a C (some d)))
theorem ok_np_init (T : NpC K mg C fI CF) {fd : FuncData} (F : Fun K "__init__" "NoPlace.__init__" s_np_init fI fd) : FnOk P w K mg base (L2.CX P w) 1 fI fd ["self", "name"] (spInit K C) := by
  refine F.okX sc_np_init (fun vs H Q E h => ?_) (fun cdv A outer s H vs Q E hr h => ?_)
  · obtain ⟨a, nm, rfl, _⟩ := h
    rfl
  · obtain ⟨a, nm, rfl, hl, ha, q⟩ := h
    refine ⟨_, (pss_cons (ps_expr (pe_owninit (by rfl) T.gF T.rd T.ga T.vF (pa_cons (pv 0) (pa_cons (pe_joined (.cons (pe_fmt (pv 1)) (.cons pe_str .nil))) pa_nil)))) (pss_one (ps_ost (pv 0) (pv 1)))), ?_⟩
    refine ⟨_, rfl, _, rfl, .inl ⟨nm, rfl, Nat.le_trans hl (by decide), ?_⟩⟩
    have l1 : (Str.empty ++ nm).length ≤ 1000 := by
      rw [PySem.Str.length_append]
      show 0 + nm.length ≤ 1000
      omega
    refine ⟨nm, rfl, Nat.le_trans l1 (by decide), _, rfl, ?_, ?_⟩
    · rw [PySem.Str.length_append]
      have : (Str.ofString " is no place").length = 12 := by decide +kernel
      exact Nat.le_trans (Nat.add_le_add l1 (Nat.le_of_eq this)) (by decide)
    · refine ⟨a, C, _, rfl, (by show 1 ≤ 1000; decide), T.oex, ha, ?_⟩
      exact ⟨_, rfl, _, rfl, a, C, rfl, T.oex, T.no, .inl ⟨ha, fun d nd de => q d nd de⟩⟩
end
/-- a def that may raise, by its promise -/
structure CalX (P : Program) (w : World) (K : PySem.W.Frag) (mg : Str → Option Value) (base : Heap) (k : Nat) (x : Str) (sp : Sp) : Prop where
  ex : ∃ (f : Addr) (fd : FuncData) (ps : List Str), FnOk P w K mg base (L2.CX P w) k f fd ps sp ∧ mg x = some (.ref f) ∧ PySem.W.keepIn K (.ref f) = true ∧ Binds K fd ps []
theorem pe_cX {X : Cx} {W : WX} {k j : Nat} {x : Str} {sp : Sp} {p pos : Pos} {e : Expr} {es : List Expr} {t : TA} (tk : Takes X W) (c : CalX X.prog X.w X.K X.mg X.base k x sp) (hr : Room j X.A) (hk : k ≤ j) (hg : Gl X x) (ha : PA X (e :: es) t)
    (hdb : (x == ("__debug__" : Str)) = false := by decide) (he : starEach (e :: es) X.env = (false, eval e X.env) :: starEach es X.env := by rfl) (hpl : (backTo pos (starEach es X.env)).any (·.1) = false := by rfl) :
    PE X (.Call (.Name x p) (e :: es) [] pos) (tCallS sp (WE W) t) := by
  obtain ⟨f, fd, ps, F, hm, kp, b⟩ := c.ex
  exact pe_callS F (hr.mono hk) hg hm kp b (fun σ => passAt tk σ) ha hdb he hpl
end Far

namespace Far
open PySem PySem.Spec PyProof.Rows L2
/-! ### enumerate(t), t a tuple -/
theorem meets_enumT {v : Value} {o : Obj} {H : Heap → Prop} (B : Begins v o H) :
    Meets (Builtin.«enumerate.__new__» ⟨[.type "enumerate", v], []⟩) (fun _ R s => H s.heap ∧
      R (.ok (.ret (.ref (s.heap.push o).objs.size))) { s with heap := (s.heap.push o).push { cls := .type "enumerate", data := .fields #[.none, .bool false, .ref s.heap.objs.size, rawInt 0, .none, .none] } }) :=
  .of_wp fun prog w A R s h => by
    obtain ⟨hp, g, d, tk, os⟩ := s; obtain ⟨h1, h⟩ := h
    have hsub := sub_enumerate
    have q1 : ∀ {A' : Around} {E : Value → Shared → Prop} {Q : Value → Shared → Prop}, Q (.ref hp.objs.size) ⟨hp.push o, g, d, tk, os⟩ → wpAny (model prog w) A' (pyIter v) Q E ⟨hp, g, d, tk, os⟩ :=
      fun q => B.iter prog w _ _ ⟨hp, g, d, tk, os⟩ _ h1 q
    wp_walk using q1
    refine wpAny_stack_any fun st => wpAny_pure ?_
    split
    · rename_i c _ _ _ _ _
      cases (c == Value.type "enumerate")
      · wp_walk using q1
        exact ⟨_, rfl, h⟩
      · wp_walk using q1
        exact ⟨_, rfl, h⟩
    · wp_walk using q1
      exact ⟨_, rfl, h⟩
theorem enumT_begins {prog : Program} {w : World} {A : Around} {E : Value → Shared → Prop} {s : Shared} {v : Value} {o : Obj} {H : Heap → Prop} {Q : Value → Shared → Prop} (B : Begins v o H) (h1 : H s.heap)
    (h : ∀ h', IsEnum h' (s.heap.objs.size + 1) s.heap.objs.size 0 .none → h'.get? s.heap.objs.size = some o → h'.objs.size = s.heap.objs.size + 2 →
      (∀ b o, s.heap.get? b = some o → h'.get? b = some o) → Q (.ref (s.heap.objs.size + 1)) { s with heap := h' }) :
    wpAny (model prog w) A (call (.type "enumerate") [v]) Q E s := by
  refine callType_new F.called_enumerate (by decide) (F.typeCall_enumerate_1 _) (F.newCall_enumerate_1 _) (fun obj => F.args_object_init_2 obj _) F.entry_enumerate_new
    (meets_enumT B) ⟨h1, ?_⟩
  have hz : (s.heap.push o).objs.size = s.heap.objs.size + 1 := Heap.size_push ..
  show _ ∧ _
  rw [hz]
  have he : IsEnum ((s.heap.push o).push { cls := .type "enumerate", data := .fields #[.none, .bool false, .ref s.heap.objs.size, rawInt 0, .none, .none] }) (s.heap.objs.size + 1) s.heap.objs.size 0 .none := by
    have := Heap.get?_push_size (s.heap.push o) (o := { cls := .type "enumerate", data := .fields #[.none, .bool false, .ref s.heap.objs.size, rawInt 0, .none, .none] }) rfl
    rw [hz] at this; exact this
  refine ⟨⟨_, he, rfl⟩, h _ he (Heap.get?_push_of_some _ (Heap.get?_push_size _ B.free)) (by rw [Heap.size_push, hz]) fun b o x => Heap.get?_push_of_some _ (Heap.get?_push_of_some _ x)⟩
/-- the tuple at a, each item in a new pair with its number -/
def Itne (K : PySem.W.Frag) (a : Addr) : It :=
  ⟨fun i H => ∃ (xs : List V) (x : V), SqT K H a xs ∧ xs[i]? = some x,
   fun i H v H' => ∃ T x, v = .ref T ∧ H T = none ∧ H' = upd H T (.tup [.int (i : Nat), x]) ∧ ∀ xs, SqT K H a xs → xs[i]? = some x,
   fun i H => ∃ xs : List V, SqT K H a xs ∧ xs.length ≤ i⟩
theorem turn_enumT {P : Program} {w : World} {K : PySem.W.Frag} {elts : List Expr} {kk : Nat} {tpos : Pos} (a e it : Addr) :
    Turn P w K (.Tuple elts kk tpos) (Itne K a) [e, it] e (fun i h => (∃ o, IsEnum h e it ((i : Nat) : Int) o) ∧ h.IsTupleIter it a i ∧ e ≠ it ∧ a ≠ it) where
  mem := by simp
  obj := fun i h st b hb => by
    obtain ⟨⟨o', he⟩, ⟨o, ho, hc, hd⟩, _⟩ := st
    rcases (show b = e ∨ b = it by simpa using hb) with rfl | rfl
    · exact ⟨_, he, fun v q => nomatch q⟩
    · exact ⟨o, ho, fun v q => by rw [hd] at q; cases q⟩
  keep := fun i h h' ⟨⟨o, he⟩, hi, hne⟩ k => ⟨⟨o, k e (by simp) _ he⟩, hi.at fun o q => k it (by simp) o q, hne⟩
  item := by
    intro X hP hw hK hc i pins s σ H E I hf st hg
    subst hP hw hK
    obtain ⟨⟨old, he⟩, hit, hne, hna⟩ := st
    obtain ⟨xs, x, hq, hx⟩ := hg
    obtain ⟨its, rv, p, hz⟩ := I.tuple hq
    have p' : s.heap.IsTuple a its.toArray := p
    obtain ⟨u, hu, ru⟩ := rv.get hx
    have hel : e < s.heap.objs.size := Heap.lt_size he
    have hil : it < s.heap.objs.size := by
      obtain ⟨_, q, _⟩ := hit
      exact Heap.lt_size q
    have hea : e ∉ [it, a] := by
      intro hm
      rcases List.mem_cons.mp hm with z | z
      · exact hne z
      · have z := List.mem_singleton.mp z
        obtain ⟨o, m, q, _⟩ := p'
        rw [← z, he] at m
        cases m
        have q : Value.type "enumerate" = Value.type "tuple" := q
        exact absurd q (by decide)
    have hlt : i < its.toArray.size := by
      have := (List.getElem?_eq_some_iff.mp hu).1
      simpa using this
    refine wpAny_pyNext_enum_itemC (Draws.tuple (A := X.A.in1) (I.ok.hd hc) it a hna its.toArray) he ⟨hit, p'⟩ hlt hne hea fun x' h' tk hx' ho hst' hT hsz hk => ?_
    have ex : x' = u := by
      have : its.toArray[i]? = some u := by simpa using hu
      exact Option.some.inj (hx'.symm.trans this)
    subst ex
    refine ⟨_, rfl, wpAny_letOwnedTupleGo_enum (s := { s with heap := h', toks := tk + 1 }) ho fun h2 he2 sb => ?_⟩
    have hT2 : h2.get? s.heap.objs.size = some { cls := .type "tuple", data := .seq #[.int (i : Nat) tk, x'] } := (sb.2 _ (Nat.ne_of_gt hel)).trans hT
    have new : ObjOk X.prog X.w (upd H s.heap.objs.size (.tup [.int (i : Nat), x])) h2 s.heap.objs.size (.tup [.int (i : Nat), x]) :=
      ⟨by show 2 ≤ sizeLine; decide, [.int (i : Nat) tk, x'], .cons ⟨_, rfl⟩ (.cons ru .nil), ⟨_, hT2, rfl, _, rfl⟩⟩
    have I1 : Inv X pins σ (upd H s.heap.objs.size (.tup [.int (i : Nat), x])) { s with heap := h2, toks := tk + 1 } :=
      I.turnedNew (ch := [e, it]) (fun b ob hb q => (sb.2 b (fun z => hb (by simp [z]))).trans (hk b ob (fun z => hb (by simp [z])) (fun z => hb (by simp [z])) q)) hf (Nat.le_refl _) new
    refine ⟨.ref s.heap.objs.size, _, I1, rfl, ⟨_, x, rfl, I.hok.fresh (Nat.le_refl _), rfl, fun ys hy => by rw [I.tuple_inj hy hq]; exact hx⟩, ⟨⟨x', ?_⟩, hst'.1.at fun o q => (sb.2 it (Ne.symm hne)).trans q, hne, hna⟩, fun b hb => ?_⟩
    · rw [show ((i + 1 : Nat) : Int) = (i : Nat) + 1 by omega]
      exact he2
    · have hb' : b < s.heap.objs.size := by
        rcases (show b = e ∨ b = it by simpa using hb) with z | z
        · rw [z]; exact hel
        · rw [z]; exact hil
      rw [upd_ne (Nat.ne_of_lt hb')]
      exact (hf b hb).1
  done := by
    intro X hP hw hK hc i pins s σ H E I hf st hg
    subst hP hw hK
    obtain ⟨⟨old, he⟩, hit, hne, hna⟩ := st
    obtain ⟨xs, hq, hx⟩ := hg
    obtain ⟨its, rv, p, hz⟩ := I.tuple hq
    have p' : s.heap.IsTuple a its.toArray := p
    obtain ⟨f0, f1, f2, f3, f4, f5⟩ := hf it (by simp)
    have hl := rv.length
    have D : Draws X.prog X.w X.A.in1 it [it, a] i (fun _ _ => True) (fun j h => (h.IsTupleIter it a j ∧ h.IsTuple a its.toArray) ∧ j = i) :=
      { live := fun _ _ st => let ⟨o, ho, _⟩ := st.1.1; ⟨o, ho⟩
        frame := fun _ _ _ st hk => ⟨⟨st.1.1.at fun o e => hk it (by simp) o e, st.1.2.at fun o e => hk a (by simp) o e⟩, st.2⟩
        item := fun j _ _ _ hj st _ => absurd st.2 (by omega)
        done := fun s Q E st hE => wpAny_nextOf_tuple_end (I.ok.hd hc) st.1.1 st.1.2 (by simp; omega) hE }
    exact wpAny_pyNext_enum_endD D he ⟨⟨hit, p'⟩, rfl⟩ fun h' eb => ⟨rfl, I.turned (t' := s.toks) (fun b o hb q => eb b o hb q) f0 f1 f3 f4 f5⟩
  self := fun A i s Q E st h => by
    obtain ⟨⟨_, he⟩, _⟩ := st
    exact wpAny_pyIter_enum he h
def iEnumT (K : PySem.W.Frag) (ta : TA) : TI := fun σ H R => ta σ H fun vs H1 => ∃ a xs, vs = [.ref a] ∧ SqT K H1 a xs ∧ R (Itne K a) H1
theorem pi_enumT {X : Cx} {e : Expr} {ta : TA} {p pos tpos : Pos} {elts : List Expr} {kk : Nat} (hg : Gl X "enumerate") (hm : X.mg "enumerate" = none) (ha : PA X [e] ta) (hs : starEach [e] X.env = [(false, eval e X.env)] := by rfl) :
    PI X (.Tuple elts kk tpos) (.Call (.Name "enumerate" p) [e] [] pos) (iEnumT X.K ta) := by
  refine ⟨fun pins s σ H R I h => ?_⟩
  refine Call_ (ld_blt I hg hm boot_enumerate (PyProof.Rows.callWith_type1 (thn (ha.run pos pins s σ H _ I h) fun us s1 ⟨vs, H1, I1, r1, q1⟩ => ?_) hs rfl))
  obtain ⟨a, xs, ex, hq, q⟩ := q1
  subst ex
  cases r1 with
  | cons r rr =>
    cases rr
    cases r
    obtain ⟨its, rv, p', hz⟩ := I1.tuple hq
    have p2 : s1.heap.IsTuple a its.toArray := p'
    refine enumT_begins (begins_tuple a its.toArray) p2 fun h' he hit hsz hk => wpAny_pyIter_enum he ?_
    have I2 : Inv X pins σ H1 { s1 with heap := h' } := I1.kept (t' := s1.toks) hk
    have hal : a < s1.heap.objs.size := by
      obtain ⟨o, m, _⟩ := p2
      exact Heap.lt_size m
    refine ⟨s1.heap.objs.size + 1, [s1.heap.objs.size + 1, s1.heap.objs.size], _, _, H1, rfl, I2, turn_enumT a (s1.heap.objs.size + 1) s1.heap.objs.size, ⟨⟨.none, by simpa using he⟩, ⟨_, hit, rfl, rfl⟩, Nat.succ_ne_self _, Nat.ne_of_lt hal⟩, fun b hb => ?_, q⟩
    have hle : s1.heap.objs.size ≤ b := by
      rcases (show b = s1.heap.objs.size + 1 ∨ b = s1.heap.objs.size by simpa using hb) with z | z
      · rw [z]; exact Nat.le_add_right _ _
      · rw [z]; exact Nat.le_refl _
    exact I1.fpOk hle (I1.hok.fresh hle)
end Far

namespace Far
open PySem PySem.Spec PyProof.Rows L2
open C8 (pss_cut tCut)
open SX (S)
end Far

namespace Far
open PySem PySem.Spec PyProof.Rows L2
open C8 (pss_cut tCut)
open SX (S)
abbrev Tri := Int × Nm × Nm
def triD (x : Tri) : PyData := .tuple [.int x.1, .str (S x.2.1), .str (S x.2.2)]
/-- the pairs of place i with those behind it -/
noncomputable def rowP (pl : List Nm) (ts : List Tie) (i : Nat) : List Tri := (pl.drop (i + 1)).map fun y => (dist ts (pl.getD i []) y, pl.getD i [], y)
/-- those of the first n places -/
noncomputable def prs (pl : List Nm) (ts : List Tie) (n : Nat) : List Tri := (List.range n).flatMap (rowP pl ts)
/-- all pairs of two places, in order -/
noncomputable def pairsOf (pl : List Nm) (ts : List Tie) : List Tri := prs pl ts pl.length
theorem prs_succ (pl : List Nm) (ts : List Tie) (n : Nat) : prs pl ts (n + 1) = prs pl ts n ++ rowP pl ts n := by
  unfold prs
  rw [List.range_succ, List.flatMap_append, List.flatMap_singleton]
theorem rowP_len (pl : List Nm) (ts : List Tie) (i : Nat) : (rowP pl ts i).length = pl.length - (i + 1) := by
  unfold rowP
  rw [List.length_map, List.length_drop]
theorem prs_len (pl : List Nm) (ts : List Tie) : ∀ n, (prs pl ts n).length ≤ n * pl.length
  | 0 => Nat.zero_le _
  | n + 1 => by
    have ih := prs_len pl ts n
    rw [prs_succ, List.length_append, rowP_len, Nat.succ_mul]
    omega
theorem rowP_at {pl : List Nm} {ts : List Tie} {i j : Nat} {x y : Nm} (hx : pl[i]? = some x) (hy : pl[i + 1 + j]? = some y) : (rowP pl ts i)[j]? = some (dist ts x y, x, y) := by
  have ex : pl.getD i [] = x := by
    show (pl[i]?).getD [] = x
    rw [hx]
    rfl
  unfold rowP
  rw [ex, List.getElem?_map, List.getElem?_drop, hy]
  rfl
end Far

namespace Far
open PySem PySem.Spec PyProof.Rows L2
open C8 (pss_cut tCut)
open SX (S)
open RZ (ItzT iZipA pi_zipA)
theorem kit_cls (K : PySem.W.Frag) {a b : String} {r : Bool} (h : kitB a b = some r) : PySem.W.kitOne K (.type a) (.type b) = some r := kit_ty h
section
variable {P : Program} {w : World} {K : PySem.W.Frag} {mg : Str → Option Value} {base : Heap}
theorem zip_it {K : PySem.W.Frag} {a b : Addr} {xs ys : List V} {g : TG} {tt : TT} {te : TE} {vs : List Nat} {σ : L2.St} {H1 : Hp} {D : Addr} {Qd : Hp → Prop} (len : xs.length = ys.length) (Pv : Nat → Hp → Prop) (h0 : Pv 0 (upd H1 D (.lst []))) (hl : ∀ i H, Pv i H → SqT K H a xs ∧ SqT K H b ys)
    (hs : ∀ i x y H T, xs[i]? = some x → ys[i]? = some y → Pv i H → H T = none → g (.ref T) (wipe σ vs) (upd H T (.tup [x, y])) fun σ2 H2 => wipe σ2 vs = wipe σ vs ∧ tt σ2 H2 fun b H3 =>
      if b = true then te σ2 H3 fun y H4 => ∃ acc, H4 D = some (.lst acc) ∧ acc.length < sizeLine ∧ Pv (i + 1) (upd H4 D (.lst (acc ++ [y]))) else Pv (i + 1) H3) (hd : ∀ H, Pv xs.length H → Qd H) :
    ∃ W : Nat → Nat → Hp → Prop, (∃ m, W 0 m (upd H1 D (.lst []))) ∧ ∀ i m H, W i m H →
      ((ItzT K a b).stop i H ∧ Qd H) ∨ ((ItzT K a b).go i H ∧ ∃ Nx : Hp → Prop, (∀ H', Nx H' → ∃ m', m' < m ∧ W (i + 1) m' H') ∧ ∀ v H', (ItzT K a b).yld i H v H' → g v (wipe σ vs) H' fun σ2 H2 => wipe σ2 vs = wipe σ vs ∧ tt σ2 H2 fun b H3 =>
        if b = true then te σ2 H3 fun y H4 => ∃ acc, H4 D = some (.lst acc) ∧ acc.length < sizeLine ∧ Nx (upd H4 D (.lst (acc ++ [y]))) else Nx H3) := by
  refine ⟨fun i m H => m = xs.length - i ∧ i ≤ xs.length ∧ Pv i H, ⟨xs.length, by simp, Nat.zero_le _, h0⟩, fun i m H ⟨em, hi, p⟩ => ?_⟩
  obtain ⟨q1, q2⟩ := hl i H p
  by_cases lt : i < xs.length
  · have lt2 : i < ys.length := by omega
    refine .inr ⟨⟨xs, ys, xs[i], ys[i], q1, q2, by simp [lt], by simp [lt2]⟩, Pv (i + 1), fun H' p' => ⟨xs.length - (i + 1), by omega, rfl, lt, p'⟩, fun v H' ⟨T, x, y, ev, nT, eH, hx, hy⟩ => ?_⟩
    rw [ev, eH]
    exact hs i x y H T (hx xs q1) (hy ys q2) p nT
  · have e : i = xs.length := by omega
    rw [e] at p
    exact .inl ⟨⟨xs, ys, q1, q2, .inl (by omega)⟩, hd H p⟩
theorem dt_any {H : Hp} {u : V} {ds : List PyData} (h : Dt H u (.tuple ds)) : ∃ (a : Addr) (xs : List V), u = .ref a ∧ TupAt H a xs ∧ DtAll H xs ds := by
  cases h with
  | tup ha hs => exact ⟨_, _, rfl, .inl ha, hs⟩
  | @tupZ a pl _ o e n d ha =>
    subst e
    exact ⟨_, _, rfl, .inr ⟨o, d, ha⟩, dt_strs H pl⟩
theorem TupAt.ty {K : PySem.W.Frag} {H : Hp} {a : Addr} {xs : List V} (h : TupAt H a xs) : TyX K H (.ref a) (.type "tuple") := h.elim (fun h => .base (.tup h)) fun ⟨_, _, h⟩ => .fTuple h
end
end Far

namespace Far
open PySem PySem.Spec PyProof.Rows L2
open C8 (pss_cut tCut)
open SX (S)
/-! ### the greatest of triples -/
def best : List Tri → Int
  | [] => 0
  | x :: r => r.foldl (fun m y => max m y.1) x.1
theorem fold_max : ∀ (r : List Tri) (m : Int), (r.foldl (fun m y => max m y.1) m = m ∨ r.foldl (fun m y => max m y.1) m ∈ r.map (·.1)) ∧ m ≤ r.foldl (fun m y => max m y.1) m ∧ ∀ y ∈ r, y.1 ≤ r.foldl (fun m y => max m y.1) m
  | [], m => ⟨.inl rfl, Int.le_refl _, fun y hy => (by cases hy)⟩
  | x :: r, m => by
    obtain ⟨h1, h2, h3⟩ := fold_max r (max m x.1)
    refine ⟨?_, ?_, fun y hy => ?_⟩
    · show r.foldl _ (max m x.1) = m ∨ r.foldl _ (max m x.1) ∈ x.1 :: r.map (·.1)
      rcases h1 with h1 | h1
      · rw [h1]
        by_cases z : m ≤ x.1
        · exact .inr (by rw [Int.max_eq_right z]; exact List.mem_cons_self ..)
        · exact .inl (Int.max_eq_left (by omega))
      · exact .inr (List.mem_cons_of_mem _ h1)
    · show m ≤ r.foldl _ (max m x.1)
      exact Int.le_trans (Int.le_max_left _ _) h2
    · show y.1 ≤ r.foldl _ (max m x.1)
      rcases List.mem_cons.mp hy with z | z
      · rw [z]
        exact Int.le_trans (Int.le_max_right _ _) h2
      · exact h3 y z
theorem best_is {ps : List Tri} {m : Int} (h1 : m ∈ ps.map (·.1)) (h2 : ∀ y ∈ ps.map (·.1), y ≤ m) : best ps = m := by
  cases ps with
  | nil => cases h1
  | cons x r =>
    obtain ⟨k1, k2, k3⟩ := fold_max r x.1
    show r.foldl (fun m y => max m y.1) x.1 = m
    have a : r.foldl (fun m y => max m y.1) x.1 ≤ m := by
      rcases k1 with k1 | k1
      · rw [k1]
        exact h2 _ (List.mem_cons_self ..)
      · exact h2 _ (List.mem_cons_of_mem _ k1)
    have b : m ≤ r.foldl (fun m y => max m y.1) x.1 := by
      rcases List.mem_cons.mp h1 with z | z
      · rw [z]
        exact k2
      · obtain ⟨y, hy, e⟩ := List.mem_map.mp z
        rw [← e]
        exact k3 y hy
    omega
/-- the pairs of the greatest length, in order -/
noncomputable def farOf (pl : List Nm) (ts : List Tie) : List Tri := (pairsOf pl ts).filter fun x => x.1 == best (pairsOf pl ts)
/-- what farthest tells -/
noncomputable def farD (pl : List Nm) (ts : List Tie) : PyData := match farOf pl ts with
  | [] => .tuple [.int 0, .str (S (pl.headD [])), .str (S (pl.headD []))]
  | x :: _ => triD x
/-- what all_farthest tells -/
noncomputable def allD (pl : List Nm) (ts : List Tie) : PyData := .tuple ((farOf pl ts).map fun x => .tuple [.str (S x.2.1), .str (S x.2.2)])
theorem farOf_none {pl : List Nm} {ts : List Tie} (h : pairsOf pl ts = []) : farOf pl ts = [] := by
  unfold farOf
  rw [h]
  rfl
theorem mem_prs {pl : List Nm} {ts : List Tie} {x : Tri} : ∀ {n : Nat}, n ≤ pl.length → x ∈ prs pl ts n → x.2.1 ∈ pl ∧ x.2.2 ∈ pl ∧ x.1 = dist ts x.2.1 x.2.2
  | 0, _, h => by cases h
  | n + 1, hn, h => by
    rw [prs_succ] at h
    rcases List.mem_append.mp h with h | h
    · exact mem_prs (by omega) h
    · obtain ⟨y, hy, rfl⟩ := List.mem_map.mp h
      refine ⟨?_, List.mem_of_mem_drop hy, rfl⟩
      show pl.getD n [] ∈ pl
      have e : pl.getD n [] = pl[n]'(by omega) := by simp [List.getD, show n < pl.length by omega]
      rw [e]
      exact List.getElem_mem _
theorem mem_pairs {pl : List Nm} {ts : List Tie} {x : Tri} (h : x ∈ pairsOf pl ts) : x.2.1 ∈ pl ∧ x.2.2 ∈ pl ∧ x.1 = dist ts x.2.1 x.2.2 := mem_prs (Nat.le_refl _) h
theorem dt_tri {H : Hp} {v : V} {x : Tri} (h : Dt H v (triD x)) : ∃ t : Addr, v = .ref t ∧ H t = some (.tup [.int x.1, .str (S x.2.1), .str (S x.2.2)]) := by
  obtain ⟨t, xs, rfl, ht, hs⟩ := dt_tup h fun _ => ⟨.int x.1, by simp, fun l z => nomatch z⟩
  cases hs with
  | cons h1 hr =>
    cases hr with
    | cons h2 hr =>
      cases hr with
      | cons h3 hr =>
        cases hr
        cases h1
        cases h2
        cases h3
        exact ⟨t, rfl, ht⟩
theorem lay_tris : ∀ {xs : List Tri}, (∀ x ∈ xs, NameOk x.2.1 ∧ NameOk x.2.2) → PyData.canLayAll0 (xs.map triD) = true
  | [], _ => rfl
  | x :: r, h => by
    obtain ⟨h1, h2⟩ := h x (List.mem_cons_self ..)
    have ih := lay_tris fun y hy => h y (List.mem_cons_of_mem _ hy)
    show (PyData.canLay0 (triD x) && PyData.canLayAll0 (r.map triD)) = true
    rw [ih, Bool.and_true]
    show (true && (PyData.strOk (S x.2.1) && (PyData.strOk (S x.2.2) && true))) = true
    rw [strOk_S h1, strOk_S h2]
    rfl
theorem dep_tris : ∀ xs : List Tri, PyData.depthAll (xs.map triD) ≤ 1
  | [] => Nat.zero_le _
  | x :: r => by
    show max (PyData.depth (triD x)) (PyData.depthAll (r.map triD)) ≤ 1
    have ih := dep_tris r
    have e : PyData.depth (triD x) = 1 := rfl
    rw [e]
    omega
theorem shaped_tris {xs : List Tri} (h : ∀ x ∈ xs, NameOk x.2.1 ∧ NameOk x.2.2) : SeqAt.shaped (.list (xs.map triD)) = true := by
  show (PyData.canLayAll0 (xs.map triD) && decide (PyData.depthAll (xs.map triD) + 1 ≤ 64)) = true
  have := dep_tris xs
  rw [lay_tris h, decide_eq_true (by omega)]
  rfl
end Far

namespace Far
open PySem PySem.Spec PyProof.Rows L2
open C8 (pss_cut tCut)
open SX (S)
structure TxtQ (mg : Str → Option Value) : Prop where
  len : mg "len" = none
  range : mg "range" = none
  tuple : mg "tuple" = none
  enumerate : mg "enumerate" = none
theorem szM {n : Nat} (h : n ≤ 10000000) : n < sizeLine := Nat.lt_of_le_of_lt h (by decide)
theorem for_enumT {K : PySem.W.Frag} {a : Addr} {xs : List V} {g : TG} {tb : TS} {D : Ends} {σ : L2.St} {H : Hp} (Pv : Nat → L2.St → Hp → Prop) (h0 : Pv 0 σ H) (hl : ∀ i σ H, Pv i σ H → SqT K H a xs)
    (hs : ∀ i x σ H T, xs[i]? = some x → Pv i σ H → H T = none → g (.ref T) σ (upd H T (.tup [.int (i : Nat), x])) fun σ2 H2 => tb { D with nx := Pv (i + 1), ct := Pv (i + 1), bk := D.nx } σ2 H2) (hd : ∀ σ H, Pv xs.length σ H → D.nx σ H) :
    ∃ W : Nat → Nat → L2.St → Hp → Prop, (∃ m, W 0 m σ H) ∧ ∀ i m σ H, W i m σ H →
      ((Itne K a).stop i H ∧ D.nx σ H) ∨ ((Itne K a).go i H ∧ ∃ N : L2.St → Hp → Prop, (∀ σ' H', N σ' H' → ∃ m', m' < m ∧ W (i + 1) m' σ' H') ∧ ∀ x H', (Itne K a).yld i H x H' → g x σ H' fun σ2 H2 => tb { D with nx := N, ct := N, bk := D.nx } σ2 H2) := by
  refine ⟨fun i m σ H => m = xs.length - i ∧ i ≤ xs.length ∧ Pv i σ H, ⟨xs.length, by simp, Nat.zero_le _, h0⟩, fun i m σ H ⟨em, hi, p⟩ => ?_⟩
  have q := hl i σ H p
  by_cases lt : i < xs.length
  · refine .inr ⟨⟨xs, xs[i], q, by simp [lt]⟩, Pv (i + 1), fun σ' H' p' => ⟨xs.length - (i + 1), by omega, rfl, lt, p'⟩, fun v H' ⟨T, x, ev, nT, eH, hx⟩ => ?_⟩
    rw [ev, eH]
    exact hs i x σ H T (hx xs q) p nT
  · have e : i = xs.length := by omega
    rw [e] at p
    exact .inl ⟨⟨xs, q, by omega⟩, hd σ H p⟩
abbrev s_pairs_in_order : Stmt := topS 15
abbrev N_pairs_in_order : List Str := ["tree", "places", "told", "number", "one", "lengths", "behind"]
theorem sc_pairs_in_order : FnScope N_pairs_in_order ["tree"] (defScope s_pairs_in_order) := ⟨rfl, rfl, rfl, by decide +kernel, rfl, by decide +kernel, by decide +kernel⟩
section
variable {P : Program} {w : World} {K : PySem.W.Frag} {mg : Str → Option Value} {base : Heap}
/-- what pairs_in_order tells -/
def spPio : Sp := fun vs H Q _ => ∃ (v : V) (pl : List Nm) (ts : List Tie), vs = [v] ∧ Dt H v (treeD pl ts) ∧ Fine pl ts ∧ ∀ (H' : Hp) (D : Addr) (ws : List V), Same H H' → H D = none → H' D = some (.lst ws) → DtAll H' ws ((pairsOf pl ts).map triD) → Q (.ref D) H'
theorem ok_pio {f : Addr} {fd : FuncData} (F : Fun K "pairs_in_order" "pairs_in_order" s_pairs_in_order f fd) (T : TxtQ mg) (Clengths_from : Cal P w K mg base 3 "lengths_from" spLens) : FnOk P w K mg base CX0 4 f fd ["tree"] spPio := by
  refine F.ok sc_pairs_in_order (fun vs H Q E h => ?_) (fun cdv A outer s H vs Q E hr h => ?_)
  · obtain ⟨v, pl, ts, rfl, _⟩ := h
    rfl
  · obtain ⟨v, pl, ts, rfl, hd, fine, q⟩ := h
    obtain ⟨t, a, b, vs, rfl, ht, ha, hb, hA⟩ := dt_tree hd
    refine ⟨_, (pss_cons (ps_set (i := 1) sc_pairs_in_order.nd rfl (.inl rfl) (pe_ix ix_tup (pv 0) pe_int (fun _ _ => rfl)))
      (pss_cons (ps_set (i := 2) sc_pairs_in_order.nd rfl (.inl rfl) (pe_lst pa_nil))
      (pss_cut (ps_for PassesOwn.never rfl (pi_enumT (by rfl) T.enumerate (pa_cons (pv 1) pa_nil)) (pg_tup rfl (pgs_cons (pg_name (i := 3) sc_pairs_in_order.nd rfl (.inl rfl)) (pgs_cons (pg_name (i := 4) sc_pairs_in_order.nd rfl (.inl rfl)) pgs_nil)))
        (pss_cons (ps_set (i := 5) sc_pairs_in_order.nd rfl (.inl rfl) (pe_c Clengths_from hr (by decide) rfl (pa_cons (pv 0) (pa_cons (pv 4) pa_nil))))
        (pss_one (ps_for PassesOwn.never rfl (pi_range2 (by rfl) T.range (pa_cons (pe_op op_add (pv 3) pe_int) (pa_cons (pe_callB call_len_seq (by rfl) T.len bt_len (pa_cons (pv 1) pa_nil)) pa_nil))) (pg_name (i := 6) sc_pairs_in_order.nd rfl (.inl rfl))
          (pss_one (ps_expr (pe_bm PySem.F.plainAttrs_list PySem.F.slot_list_append PySem.F.type_list_append mt_append (pv 2) (pa_cons (pe_tup (pa_cons (pe_ix ix_tup (pv 5) (pv 6) (fun _ _ => rfl)) (pa_cons (pv 4) (pa_cons (pe_ix ix_tup (pv 1) (pv 6) (fun _ _ => rfl)) pa_nil)))) pa_nil))))))))
      (pss_one (ps_ret (pv 2)))))), ?_⟩
    have p1000 := fine.len
    have sqn : ((pl.map S).map V.str).length = pl.length := by rw [List.length_map, List.length_map]
    refine ⟨_, rfl, t, _, 0, .ref a, rfl, rfl, SqT.of ht, atI_nat (j := 0) rfl, ?_⟩
    refine ⟨Nat.zero_le _, fun D nD => ?_⟩
    refine ⟨fun σ' H' => ∃ (x3 x4 x5 x6 : Option V) (ws : List V), σ' = [some (.ref t), some (.ref a), some (.ref D), x3, x4, x5, x6] ∧ Same H H' ∧ H' D = some (.lst ws) ∧ DtAll H' ws ((pairsOf pl ts).map triD), ?_, fun σ' H' hM => ?_⟩
    · have S2 := same_new (o := .lst []) (Same.refl H) nD
      refine ⟨_, rfl, a, _, rfl, (ha.same S2).sq, ?_⟩
      refine for_enumT (K := K) (a := a) (xs := (pl.map S).map V.str) (fun i σ' H' => ∃ (x3 x4 x5 x6 : Option V) (ws : List V), σ' = [some (.ref t), some (.ref a), some (.ref D), x3, x4, x5, x6] ∧ Same H H' ∧ H' D = some (.lst ws) ∧ DtAll H' ws ((prs pl ts i).map triD)) ⟨none, none, none, none, [], rfl, S2, upd_same, .nil⟩ (fun i σ' H' hP => ?_) (fun i v σ' H' u hi hP nu => ?_) (fun σ' H' hP => ?_)
      · obtain ⟨_, _, _, _, ws, rfl, SM, _⟩ := hP
        exact (ha.same SM).sq
      · obtain ⟨x3, x4, x5, x6, ws, rfl, SM, hD, hW⟩ := hP
        have gx : ∃ x, pl[i]? = some x ∧ v = .str (S x) := by
          rw [List.getElem?_map, List.getElem?_map] at hi
          cases el : pl[i]? with
          | none => rw [el] at hi; cases hi
          | some x => rw [el] at hi; exact ⟨x, rfl, (Option.some.inj hi).symm⟩
        obtain ⟨x, gx, rfl⟩ := gx
        have ip : i < pl.length := (List.getElem?_eq_some_iff.mp gx).1
        have hx : x ∈ pl := List.mem_of_getElem? gx
        have uD : u ≠ D := (ne_of_none hD nu).symm
        have S3 := same_new (o := .tup [.int (i : Nat), .str (S x)]) SM nu
        have tk3 : TK H' (upd H' u (.tup [.int (i : Nat), .str (S x)])) := TK.new nu
        have hD3 : (upd H' u (.tup [.int (i : Nat), .str (S x)])) D = some (.lst ws) := by rw [upd_ne uD.symm]; exact hD
        have hW3 := DtAll.keep tk3 hW
        have hu3 : (upd H' u (.tup [.int (i : Nat), .str (S x)])) u = some (.tup [.int (i : Nat), .str (S x)]) := upd_same
        clear hD hW tk3 nu SM
        generalize upd H' u (.tup [.int (i : Nat), .str (S x)]) = H3 at S3 hD3 hW3 hu3
        refine ⟨u, _, rfl, SqT.of hu3, rfl, _, _, rfl, _, _, rfl, rfl, ?_⟩
        refine ⟨_, rfl, _, rfl, .ref t, pl, ts, x, rfl, Dt.keep (TK.of S3) hd, fine, hx, fun H4 L S4 nL hL => ?_⟩
        have SM := S3.trans S4
        have hD := S4 _ _ hD3
        have hW := DtAll.keep (TK.of S4) hW3
        refine ⟨_, rfl, _, _, rfl, rfl, _, rfl, a, _, rfl, .inr (ha.same SM).sq, _, _, rfl, ⟨by omega, by omega, by rw [sqn]; omega, by rw [sqn]; omega⟩, ?_⟩
        refine for_range (lo := ((i : Nat) : Int) + 1) (n := ((((pl.map S).map V.str).length : Int) - (((i : Nat) : Int) + 1)).toNat) (fun j σ' H' => ∃ (x6 : Option V) (ws : List V), σ' = [some (.ref t), some (.ref a), some (.ref D), some (.int ((i : Nat) : Int)), some (.str (S x)), some (.ref L), x6] ∧ Same H H' ∧ H' L = some (.tup (pl.map fun z => .int (dist ts x z))) ∧ H' D = some (.lst ws) ∧ DtAll H' ws ((prs pl ts i ++ (rowP pl ts i).take j).map triD)) ⟨x6, ws, rfl, SM, hL, hD, by rw [List.take_zero, List.append_nil]; exact hW⟩ (fun j σ' H' hj hP => ?_) (fun σ' H' hP => ?_)
        · obtain ⟨x6, ws, rfl, S6, hL, hD, hW⟩ := hP
          rw [sqn] at hj
          have jp : i + 1 + j < pl.length := by omega
          have gy : pl[i + 1 + j]? = some pl[i + 1 + j] := List.getElem?_eq_getElem jp
          generalize pl[i + 1 + j] = y at gy
          have hy : y ∈ pl := List.mem_of_getElem? gy
          have ej : ((i : Nat) : Int) + 1 + (j : Int) = ((i + 1 + j : Nat) : Int) := by omega
          have wl : ws.length = (prs pl ts i ++ (rowP pl ts i).take j).length := by
            have := DtAll.len hW
            rwa [List.length_map] at this
          have b1 := prs_len pl ts i
          have b2 : i * pl.length ≤ 1000 * 1000 := Nat.mul_le_mul (by omega) p1000
          rw [List.length_append, List.length_take, rowP_len] at wl
          have gpy : ((pl.map S).map V.str)[i + 1 + j]? = some (.str (S y)) := by rw [List.getElem?_map, List.getElem?_map, gy]; rfl
          have gd : (pl.map fun z => V.int (dist ts x z))[i + 1 + j]? = some (.int (dist ts x y)) := by rw [List.getElem?_map, gy]; rfl
          refine ⟨_, rfl, .inl ⟨rfl, _, SqL.of hD⟩, _, rfl, _, rfl, L, _, ((i : Nat) : Int) + 1 + (j : Int), _, rfl, rfl, SqT.of hL, by rw [ej]; exact atI_nat gd, ?_⟩
          refine ⟨_, rfl, _, rfl, _, rfl, a, _, ((i : Nat) : Int) + 1 + (j : Int), _, rfl, rfl, (ha.same S6).sq, by rw [ej]; exact atI_nat gpy, (by show 3 ≤ sizeLine; decide), fun e ne => ?_⟩
          have hD2 : (upd H' e (.tup [.int (dist ts x y), .str (S x), .str (S y)])) D = some (.lst ws) := by
            rw [upd_ne (ne_of_none hD ne)]
            exact hD
          refine ⟨D, ws, _, rfl, rfl, hD2, szM (by omega), ?_⟩
          have tk : TK (upd H' e (.tup [.int (dist ts x y), .str (S x), .str (S y)])) (upd (upd H' e (.tup [.int (dist ts x y), .str (S x), .str (S y)])) D (.lst (ws ++ [.ref e]))) := TK.mut hD2
          have Le : L ≠ e := ne_of_none hL ne
          have LD : L ≠ D := ne_of hL hD (by intro z; cases z)
          refine ⟨_, ws ++ [.ref e], rfl, same_put (same_new S6 ne) nD, by rw [upd_ne LD, upd_ne Le]; exact hL, upd_same, ?_⟩
          rw [List.take_add_one, rowP_at gx gy, ← List.append_assoc, List.map_append]
          exact DtAll.app (DtAll.keep ((TK.new ne).trans tk) hW) (.cons (.tup (tk.tup _ _ upd_same) (.cons (.int _) (.cons (.str _) (.cons (.str _) .nil)))) .nil)
        · obtain ⟨x6, ws, rfl, S6, hL, hD, hW⟩ := hP
          refine ⟨_, _, _, _, ws, rfl, S6, hD, ?_⟩
          rw [sqn, List.take_of_length_le (by rw [rowP_len]; omega)] at hW
          rw [prs_succ]
          exact hW
      · obtain ⟨x3, x4, x5, x6, ws, rfl, SM, hD, hW⟩ := hP
        rw [sqn] at hW
        exact ⟨x3, x4, x5, x6, ws, rfl, SM, hD, hW⟩
    · obtain ⟨x3, x4, x5, x6, ws, rfl, SM, hD, hW⟩ := hM
      exact ⟨_, rfl, q H' D ws SM nD hD hW⟩
end
end Far

namespace Far
open PySem
open SX (S)
/-! ### ways cut, put together -/
theorem snoc_cons {α : Type} {p p1 p2 : List α} {w m : α} (h : p ++ [w] = p1 ++ m :: p2) : (p2 = [] ∧ p1 = p ∧ m = w) ∨ ∃ p3, p2 = p3 ++ [w] ∧ p = p1 ++ m :: p3 := by
  rcases List.eq_nil_or_concat p2 with e | ⟨p3, z, e⟩
  · subst e
    have := List.append_inj' h rfl
    exact .inl ⟨rfl, this.1.symm, by simpa using this.2.symm⟩
  · rw [e] at h ⊢
    have h' : p ++ [w] = (p1 ++ m :: p3) ++ [z] := by rw [h]; simp
    have := List.append_inj' h' rfl
    refine .inr ⟨p3, ?_, this.1⟩
    have : w = z := by simpa using this.2
    rw [this]
    simp
theorem Way.split {ts : List Tie} {u v : Nm} {p : List Nm} {L : Int} (h : Way ts u v p L) : ∀ {p1 p2 : List Nm} {m : Nm}, p = p1 ++ m :: p2 → ∃ L1 L2, Way ts u m (p1 ++ [m]) L1 ∧ Way ts m v (m :: p2) L2 ∧ L = L1 + L2 := by
  induction h with
  | nil =>
    intro p1 p2 m e
    have h1 : p1 = [] ∧ m = u ∧ p2 = [] := by
      cases p1 with
      | nil =>
        have := List.cons.inj e
        exact ⟨rfl, this.1.symm, this.2.symm⟩
      | cons a r =>
        have := congrArg List.length e
        simp at this
    obtain ⟨rfl, rfl, rfl⟩ := h1
    exact ⟨0, 0, .nil, .nil, by omega⟩
  | @snoc v w p L k h1 ha hn ih =>
    intro p1 p2 m e
    rcases snoc_cons e with ⟨rfl, rfl, rfl⟩ | ⟨p3, rfl, rfl⟩
    · exact ⟨L + k, 0, .snoc h1 ha hn, .nil, by omega⟩
    · obtain ⟨L1, L2, w1, w2, el⟩ := ih rfl
      exact ⟨L1, L2 + k, w1, .snoc w2 ha (fun z => hn (List.mem_append_right _ z)), by omega⟩
theorem Way.join {ts : List Tie} {u m v : Nm} {p1 q : List Nm} {L1 L2 : Int} (h1 : Way ts u m (p1 ++ [m]) L1) (h2 : Way ts m v q L2) (d : ∀ y ∈ q, y ∉ p1) : Way ts u v (p1 ++ q) (L1 + L2) := by
  induction h2 with
  | nil => simpa using h1
  | @snoc v w q L k h ha hn ih =>
    have := Way.snoc (ih fun y hy => d y (List.mem_append_left _ hy)) ha (w := w) (fun z => by
      rcases List.mem_append.mp z with z | z
      · exact d w (by simp) z
      · exact hn z)
    rw [List.append_assoc] at this
    rw [← Int.add_assoc]
    exact this
theorem first_in (q : List Nm) : ∀ {p : List Nm}, (∃ y ∈ p, y ∈ q) → ∃ A m B, p = A ++ m :: B ∧ m ∈ q ∧ ∀ y ∈ A, y ∉ q
  | [], h => by simp at h
  | a :: r, h => by
    by_cases e : a ∈ q
    · exact ⟨[], a, r, rfl, e, by simp⟩
    · obtain ⟨y, hy, hq⟩ := h
      rcases List.mem_cons.mp hy with z | z
      · exact absurd (z ▸ hq) e
      · obtain ⟨A, m, B, e1, e2, e3⟩ := first_in q ⟨y, z, hq⟩
        refine ⟨a :: A, m, B, by rw [e1]; rfl, e2, fun y hy => ?_⟩
        rcases List.mem_cons.mp hy with z | z
        · exact z ▸ e
        · exact e3 y z
theorem last_of {p : List Nm} {x : Nm} {A B : List Nm} {m : Nm} (h : p ++ [x] = A ++ m :: B) : (B = [] ∧ m = x) ∨ x ∈ B := by
  rcases snoc_cons h with ⟨e, _, em⟩ | ⟨p3, e, _⟩
  · exact .inl ⟨e, em⟩
  · exact .inr (by rw [e]; simp)
/-- the place where three ways meet -/
theorem IsTree.median {pl : List Nm} {ts : List Tie} (h : IsTree pl ts) {u v x : Nm} (hu : u ∈ pl) (hv : v ∈ pl) (hx : x ∈ pl) : ∃ (m : Nm) (A B C : List Nm) (d : Int), path ts u x = A ++ m :: B ∧ path ts x v = B.reverse ++ m :: C ∧ path ts u v = A ++ m :: C ∧
    (∀ y ∈ A, y ∉ path ts x v) ∧ dist ts u x + dist ts x v = dist ts u v + 2 * d ∧ 0 ≤ d ∧ (d = 0 ↔ B = []) := by
  have wp := h.the_way hu hx
  have wq := h.the_way hx hv
  obtain ⟨A, m, B, ep, mq, dA⟩ := first_in (path ts x v) ⟨x, wp.mem, by
    obtain ⟨r, e⟩ := wq.first
    rw [e]
    simp⟩
  obtain ⟨B', C, eq⟩ := List.append_of_mem mq
  obtain ⟨L1, L2, w1, w2, el⟩ := wp.split ep
  obtain ⟨L3, L4, w3, w4, el2⟩ := wq.split eq
  have wr := w2.rev
  rw [List.reverse_cons] at wr
  obtain ⟨eb, e23⟩ := h.one_way w3 wr
  have eb' : B' = B.reverse := (List.append_inj' eb rfl).1
  subst eb'
  have wj := w1.join w4 (fun y hy z => dA y z (by rw [eq]; exact List.mem_append_right _ hy))
  obtain ⟨f1, f2⟩ := h.is_way wj
  obtain ⟨n0, n1⟩ := w2.nonneg (fun e he => (h.ties e he).2.2.1)
  refine ⟨m, A, B, C, L2, ep, eq, f1, dA, by omega, n0, ?_, fun e => ?_⟩
  · intro e
    rw [List.length_cons] at n1
    exact List.eq_nil_of_length_eq_zero (by omega)
  · subst e
    obtain ⟨r, er⟩ := w2.last
    have em : x = m := by
      cases r with
      | nil => exact (List.cons.inj er).1.symm
      | cons a r =>
        have := congrArg List.length er
        simp at this
    subst em
    exact (h.one_way w2 .nil).2
/-- over a third place no way is shorter; just as long where it is on the way -/
theorem IsTree.over {pl : List Nm} {ts : List Tie} (h : IsTree pl ts) {u v x : Nm} (hu : u ∈ pl) (hv : v ∈ pl) (hx : x ∈ pl) : dist ts u v ≤ dist ts u x + dist ts x v ∧ (dist ts u x + dist ts x v = dist ts u v ↔ x ∈ path ts u v) ∧
    ∃ m, (path ts u v).filter (fun y => decide (y ∈ path ts u x) && decide (y ∈ path ts x v)) = [m] := by
  obtain ⟨m, A, B, C, d, e1, e2, e3, dA, ed, d0, db⟩ := h.median hu hv hx
  have np := (h.the_way hu hx).nodup
  have nq := (h.the_way hx hv).nodup
  obtain ⟨r, er⟩ := (h.the_way hu hx).last
  obtain ⟨t, et⟩ := (h.the_way hx hv).first
  rw [e1] at np er
  rw [e2] at nq et dA
  have qd := List.nodup_append.mp nq
  have pd := List.nodup_append.mp np
  refine ⟨by omega, ⟨fun e => ?_, fun e => ?_⟩, m, ?_⟩
  · have b0 := db.mp (by omega)
    subst b0
    rcases last_of er.symm with ⟨_, em⟩ | z
    · rw [e3, ← em]
      simp
    · cases z
  · rcases last_of er.symm with ⟨b0, _⟩ | z
    · have := db.mpr b0
      omega
    · exfalso
      rw [e3] at e
      rcases List.mem_append.mp e with q | q
      · exact pd.2.2 x q x (List.mem_cons_of_mem _ z) rfl
      · rcases List.mem_cons.mp q with q | q
        · exact (List.nodup_cons.mp pd.2.1).1 (q ▸ z)
        · have : x ∈ B.reverse := List.mem_reverse.mpr z
          exact qd.2.2 x this x (List.mem_cons_of_mem _ q) rfl
  · rw [e3, e1, e2, List.filter_append]
    have fA : A.filter (fun y => decide (y ∈ A ++ m :: B) && decide (y ∈ B.reverse ++ m :: C)) = [] := by
      refine List.filter_eq_nil_iff.mpr fun y hy => ?_
      simp only [Bool.and_eq_true, decide_eq_true_eq, not_and]
      exact fun _ => dA y hy
    have fC : C.filter (fun y => decide (y ∈ A ++ m :: B) && decide (y ∈ B.reverse ++ m :: C)) = [] := by
      refine List.filter_eq_nil_iff.mpr fun y hy => ?_
      simp only [Bool.and_eq_true, decide_eq_true_eq, not_and]
      intro z _
      rcases List.mem_append.mp z with z | z
      · exact dA y z (List.mem_append_right _ (List.mem_cons_of_mem _ hy))
      · rcases List.mem_cons.mp z with z | z
        · exact (List.nodup_cons.mp qd.2.1).1 (z ▸ hy)
        · exact qd.2.2 y (List.mem_reverse.mpr z) y (List.mem_cons_of_mem _ hy) rfl
    rw [fA, List.filter_cons, if_pos (by simp), fC]
    rfl
/-- two beside one another -/
theorem Way.two {ts : List Tie} {u v : Nm} {k : Int} (h : Adj ts u v k) (ne : v ≠ u) : Way ts u v [u, v] k := by
  have := Way.snoc (ts := ts) (u := u) .nil h (by simpa using ne)
  simpa using this
theorem Grown.adj_ne {os : List Nm} {es : List Tie} (g : Grown os es) : ∀ {u v : Nm} {k : Int}, Adj es u v k → v ≠ u := by
  induction g with
  | one a =>
    intro u v k h
    rcases h with h | h <;> cases h
  | @leaf os es a b k0 e0 g ha hbn he k1 k2 ih =>
    intro u v k h
    have hb : ∀ e ∈ es, e.1 ≠ b ∧ e.2.1 ≠ b := fun e hm => by
      obtain ⟨i1, i2, _⟩ := g.ties e hm
      exact ⟨fun z => hbn (z ▸ i1), fun z => hbn (z ▸ i2)⟩
    have ab : a ≠ b := fun z => hbn (z ▸ ha)
    rcases adj_new hb ab he h with ⟨h, _, _⟩ | ⟨e1, e2, _⟩ | ⟨e1, e2, _⟩
    · exact ih h
    · rw [e1, e2]
      exact Ne.symm ab
    · rw [e1, e2]
      exact ab
theorem IsTree.adj_ne {pl : List Nm} {ts : List Tie} (h : IsTree pl ts) {u v : Nm} {k : Int} (a : Adj ts u v k) : v ≠ u := by
  obtain ⟨os, es, g, _, p2⟩ := h
  exact g.adj_ne (a.perm p2)
theorem IsTree.adj_one {pl : List Nm} {ts : List Tie} (h : IsTree pl ts) {u v : Nm} {k l : Int} (a : Adj ts u v k) (b : Adj ts u v l) : k = l := (h.one_way (Way.two a (h.adj_ne a)) (Way.two b (h.adj_ne b))).2
/-- the ties of a way -/
theorem Way.hops {ts : List Tie} {u v : Nm} {p : List Nm} {L : Int} (h : Way ts u v p L) : ∃ ks : List Int, ks.length + 1 = p.length ∧ ks.sum = L ∧ ∀ (i : Nat) (x y : Nm), p[i]? = some x → p[i + 1]? = some y → ∃ k, ks[i]? = some k ∧ Adj ts x y k := by
  induction h with
  | nil => exact ⟨[], rfl, rfl, fun i x y _ e => by simp at e⟩
  | @snoc v w p L k h ha hn ih =>
    obtain ⟨ks, e1, e2, e3⟩ := ih
    refine ⟨ks ++ [k], by simp [e1], by simp [e2], fun i x y ex ey => ?_⟩
    by_cases lt : i + 1 < p.length
    · rw [List.getElem?_append_left (by omega)] at ex
      rw [List.getElem?_append_left lt] at ey
      obtain ⟨k', f1, f2⟩ := e3 i x y ex ey
      exact ⟨k', by rw [List.getElem?_append_left (by omega)]; exact f1, f2⟩
    · have ei : i + 1 = p.length := by
        have := (List.getElem?_eq_some_iff.mp ey).1
        simp at this
        omega
      rw [List.getElem?_append_left (by omega)] at ex
      rw [ei, List.getElem?_append_right (by omega)] at ey
      simp at ey
      obtain ⟨q, eq⟩ := h.last
      rw [eq] at ex ei
      rw [List.length_append, List.length_singleton] at ei
      have ei' : i = q.length := by omega
      rw [ei', List.getElem?_append_right (by omega)] at ex
      simp at ex
      rw [← ex, ← ey]
      refine ⟨k, ?_, ha⟩
      have : ks.length = i := by
        rw [eq, List.length_append, List.length_singleton] at e1
        omega
      rw [← this]
      simp
end Far

namespace Far
open PySem PySem.Spec PyProof.Rows L2
open C8 (pss_cut tCut)
open SX (S)
/-! ### the first of the greatest, by going along -/
def topT : Tri → List Tri → Tri := List.foldl fun m y => if y.1 > m.1 then y else m
theorem topT_snoc (m : Tri) (ps : List Tri) (y : Tri) : topT m (ps ++ [y]) = if y.1 > (topT m ps).1 then y else topT m ps := by
  unfold topT
  rw [List.foldl_append]
  rfl
theorem topT_is : ∀ (ps : List Tri) (m : Tri), (topT m ps = m ∧ ∀ y ∈ ps, y.1 ≤ m.1) ∨ (m.1 < (topT m ps).1 ∧ (∃ r, ps.filter (fun x => x.1 == (topT m ps).1) = topT m ps :: r) ∧ ∀ y ∈ ps, y.1 ≤ (topT m ps).1)
  | [], m => .inl ⟨rfl, fun y hy => (by cases hy)⟩
  | y :: t, m => by
    by_cases c : y.1 > m.1
    · have e : topT m (y :: t) = topT y t := by
        show topT (if y.1 > m.1 then y else m) t = _
        rw [if_pos c]
      rw [e]
      rcases topT_is t y with ⟨h1, h2⟩ | ⟨h1, ⟨r, h2⟩, h3⟩
      · refine .inr ⟨by rw [h1]; exact c, ⟨t.filter fun x => x.1 == y.1, ?_⟩, fun z hz => ?_⟩
        · rw [h1, List.filter_cons, if_pos (by simp)]
        · rw [h1]
          rcases List.mem_cons.mp hz with q | q
          · rw [q]
            exact Int.le_refl _
          · exact h2 z q
      · refine .inr ⟨by omega, ⟨r, ?_⟩, fun z hz => ?_⟩
        · rw [List.filter_cons, if_neg (by simp; omega)]
          exact h2
        · rcases List.mem_cons.mp hz with q | q
          · rw [q]
            omega
          · exact h3 z q
    · have e : topT m (y :: t) = topT m t := by
        show topT (if y.1 > m.1 then y else m) t = _
        rw [if_neg c]
      rw [e]
      rcases topT_is t m with ⟨h1, h2⟩ | ⟨h1, ⟨r, h2⟩, h3⟩
      · refine .inl ⟨h1, fun z hz => ?_⟩
        rcases List.mem_cons.mp hz with q | q
        · rw [q]
          omega
        · exact h2 z q
      · refine .inr ⟨h1, ⟨r, ?_⟩, fun z hz => ?_⟩
        · rw [List.filter_cons, if_neg (by simp; omega)]
          exact h2
        · rcases List.mem_cons.mp hz with q | q
          · rw [q]
            omega
          · exact h3 z q
theorem IsTree.pos {pl : List Nm} {ts : List Tie} (F : IsTree pl ts) {u x : Nm} (hu : u ∈ pl) (hx : x ∈ pl) (n : u ≠ x) : 1 ≤ dist ts u x := by
  have w := F.the_way hu hx
  have k := Way.nonneg (fun e he => (F.ties e he).2.2.1) w
  obtain ⟨q, e1⟩ := w.first
  obtain ⟨q', e2⟩ := w.last
  have l2 : 2 ≤ (path ts u x).length := by
    cases q with
    | nil =>
      rw [e1] at e2
      have := congrArg List.getLast? e2
      rw [List.getLast?_append] at this
      simp at this
      exact absurd this n
    | cons a r =>
      rw [e1]
      simp
  omega
theorem prs_ne {pl : List Nm} {ts : List Tie} (nd : pl.Nodup) {x : Tri} : ∀ {n : Nat}, n ≤ pl.length → x ∈ prs pl ts n → x.2.1 ≠ x.2.2
  | 0, _, h => by cases h
  | n + 1, hn, h => by
    rw [prs_succ] at h
    rcases List.mem_append.mp h with h | h
    · exact prs_ne nd (by omega) h
    · obtain ⟨y, hy, rfl⟩ := List.mem_map.mp h
      show pl.getD n [] ≠ y
      have e : pl.getD n [] = pl[n]'(by omega) := by simp [List.getD, show n < pl.length by omega]
      rw [e]
      intro z
      obtain ⟨j, hj, ej⟩ := List.mem_iff_getElem.mp hy
      rw [List.getElem_drop, ← z] at ej
      rw [List.length_drop] at hj
      have := (List.getElem_inj nd).mp ej
      omega
theorem pairs_pos {pl : List Nm} {ts : List Tie} (F : Fine pl ts) {x : Tri} (h : x ∈ pairsOf pl ts) : 1 ≤ x.1 := by
  obtain ⟨h1, h2, h3⟩ := mem_pairs h
  rw [h3]
  exact F.tree.pos h1 h2 (prs_ne F.tree.nodup (Nat.le_refl _) h)
theorem farD_top {pl : List Nm} {ts : List Tie} (F : Fine pl ts) : farD pl ts = triD (topT (0, pl.headD [], pl.headD []) (pairsOf pl ts)) ∧ (pairsOf pl ts ≠ [] → (topT (0, pl.headD [], pl.headD []) (pairsOf pl ts)).1 = best (pairsOf pl ts)) := by
  have hp : ∀ x ∈ pairsOf pl ts, 1 ≤ x.1 := fun x hx => pairs_pos F hx
  unfold farD farOf
  generalize pairsOf pl ts = ps at hp
  rcases topT_is ps (0, pl.headD [], pl.headD []) with ⟨h1, h2⟩ | ⟨h1, ⟨r, h2⟩, h3⟩
  · cases ps with
    | nil => exact ⟨by rw [h1]; rfl, fun z => absurd rfl z⟩
    | cons x r =>
      have a := hp x (List.mem_cons_self ..)
      have b := h2 x (List.mem_cons_self ..)
      exact absurd b (by show ¬ x.1 ≤ 0; omega)
  · generalize topT (0, pl.headD [], pl.headD []) ps = m at *
    have hb : best ps = m.1 := by
      refine best_is (List.mem_map.mpr ⟨m, ?_, rfl⟩) fun y hy => ?_
      · have : m ∈ ps.filter fun x => x.1 == m.1 := by
          rw [h2]
          exact List.mem_cons_self ..
        exact (List.mem_filter.mp this).1
      · obtain ⟨z, hz, rfl⟩ := List.mem_map.mp hy
        exact h3 z hz
    rw [hb, h2]
    exact ⟨rfl, fun _ => rfl⟩
abbrev s_farthest : Stmt := topS 14
abbrev N_farthest : List Str := ["tree", "first", "told", "pair"]
theorem sc_farthest : FnScope N_farthest ["tree"] (defScope s_farthest) := ⟨rfl, rfl, rfl, by decide +kernel, rfl, by decide +kernel, by decide +kernel⟩
section
variable {P : Program} {w : World} {K : PySem.W.Frag} {mg : Str → Option Value} {base : Heap}
def spFarthest : Sp := fun vs H Q _ => ∃ (v : V) (pl : List Nm) (ts : List Tie), vs = [v] ∧ Dt H v (treeD pl ts) ∧ Fine pl ts ∧ ∀ (H' : Hp) (r : V), Same H H' → Dt H' r (farD pl ts) → Q r H'
def spAllFarthest : Sp := fun vs H Q _ => ∃ (v : V) (pl : List Nm) (ts : List Tie), vs = [v] ∧ Dt H v (treeD pl ts) ∧ Fine pl ts ∧ ∀ (H' : Hp) (r : V), Same H H' → Dt H' r (allD pl ts) → Q r H'
theorem ok_farthest {f : Addr} {fd : FuncData} (F : Fun K "farthest" "farthest" s_farthest f fd) (Cpairs_in_order : Cal P w K mg base 4 "pairs_in_order" spPio) : FnOk P w K mg base CX0 5 f fd ["tree"] spFarthest := by
  refine F.ok sc_farthest (fun vs H Q E h => ?_) (fun cdv A outer s H vs Q E hr h => ?_)
  · obtain ⟨v, pl, ts, rfl, _⟩ := h
    rfl
  · obtain ⟨v, pl, ts, rfl, hd, fine, q⟩ := h
    obtain ⟨t, a, b, vs, rfl, ht, ha, hb, hA⟩ := dt_tree hd
    refine ⟨_, (pss_cons (ps_set (i := 1) sc_farthest.nd rfl (.inl rfl) (pe_ix ix_tup (pe_ix ix_tup (pv 0) pe_int (fun _ _ => rfl)) pe_int (fun _ _ => rfl)))
      (pss_cons (ps_set (i := 2) sc_farthest.nd rfl (.inl rfl) (pe_tup (pa_cons pe_int (pa_cons (pv 1) (pa_cons (pv 1) pa_nil)))))
      (pss_cut (ps_for PassesOwn.never rfl (pi_list (pe_c Cpairs_in_order hr (by decide) rfl (pa_cons (pv 0) pa_nil))) (pg_name (i := 3) sc_farthest.nd rfl (.inl rfl))
        (pss_one (ps_if (pt_cmpR op_gt (pe_ix ix_tup (pv 3) pe_int (fun _ _ => rfl)) (pe_ix ix_tup (pv 2) pe_int (fun _ _ => rfl)) (nomark _))
          (pss_one (ps_set (i := 2) sc_farthest.nd rfl (.inl rfl) (pv 3)))
          pss_nil)))
      (pss_one (ps_ret (pv 2)))))), ?_⟩
    obtain ⟨p0, pr, epl⟩ : ∃ p0 pr, pl = p0 :: pr := by
      cases hp : pl with
      | nil => exact absurd hp fine.ne
      | cons a r => exact ⟨a, r, rfl⟩
    have g0 : ((pl.map S).map V.str)[0]? = some (.str (S p0)) := by rw [epl]; rfl
    refine ⟨_, rfl, t, _, 0, .ref a, rfl, rfl, SqT.of ht, atI_nat (j := 0) rfl, a, _, 0, _, rfl, rfl, ha.sq, atI_nat (j := 0) g0, ?_⟩
    refine ⟨_, rfl, _, rfl, (by show 3 ≤ sizeLine; decide), fun T0 nT0 => ?_⟩
    have S1 := same_new (o := .tup [.int 0, .str (S p0), .str (S p0)]) (Same.refl H) nT0
    have h0 : (upd H T0 (.tup [.int 0, .str (S p0), .str (S p0)])) T0 = some (.tup [.int 0, .str (S p0), .str (S p0)]) := upd_same
    generalize upd H T0 (.tup [.int 0, .str (S p0), .str (S p0)]) = H1 at S1 h0
    refine ⟨fun σ' H' => ∃ (r : Addr) (x3 : Option V), σ' = [some (.ref t), some (.str (S p0)), some (.ref r), x3] ∧ Same H H' ∧ Dt H' (.ref r) (triD (topT (0, pl.headD [], pl.headD []) (pairsOf pl ts))), ?_, fun σ' H' hM => ?_⟩
    · refine ⟨_, rfl, .ref t, pl, ts, rfl, Dt.keep (TK.of S1) hd, fine, fun H2 D ws S2 nD hD hW => ?_⟩
      have wl := DtAll.len hW
      rw [List.length_map] at wl
      refine ⟨D, rfl, ⟨_, SqL.of hD⟩, for_list (K := K) (a := D) (xs := ws) (fun i σ' H' => H' = H2 ∧ ∃ (r : Addr) (x3 : Option V), σ' = [some (.ref t), some (.str (S p0)), some (.ref r), x3] ∧ H2 r = some (.tup [.int (topT (0, pl.headD [], pl.headD []) ((pairsOf pl ts).take i)).1, .str (S (topT (0, pl.headD [], pl.headD []) ((pairsOf pl ts).take i)).2.1), .str (S (topT (0, pl.headD [], pl.headD []) ((pairsOf pl ts).take i)).2.2)])) ⟨rfl, T0, none, rfl, ?_⟩ (fun i σ' H' _ hP => by rw [hP.1]; exact SqL.of hD) (fun i v σ' H' hi hP => ?_) (fun σ' H' hP => ?_)⟩
      · rw [List.take_zero]
        show H2 T0 = some (.tup [.int 0, .str (S (pl.headD [])), .str (S (pl.headD []))])
        rw [epl]
        exact S2 _ _ h0
      · obtain ⟨rfl, r, x3, rfl, hr2⟩ := hP
        obtain ⟨d, hd, hx⟩ := DtAll.get hW hi
        rw [List.getElem?_map] at hd
        cases ee : (pairsOf pl ts)[i]? with
        | none => rw [ee] at hd; cases hd
        | some y =>
          rw [ee] at hd
          have ed : d = triD y := (Option.some.inj hd).symm
          subst ed
          obtain ⟨u, rfl, hu⟩ := dt_tri hx
          have et : (pairsOf pl ts).take (i + 1) = (pairsOf pl ts).take i ++ [y] := by
            rw [List.take_add_one, ee]
            rfl
          rw [et, topT_snoc]
          refine ⟨_, rfl, u, _, 0, _, rfl, rfl, SqT.of hu, atI_nat (j := 0) rfl, _, rfl, r, _, 0, _, rfl, rfl, SqT.of hr2, atI_nat (j := 0) rfl, _, _, rfl, rfl, _, rfl, ?_⟩
          refine ite2 (fun z => ?_) (fun z => ?_)
          · have z : y.1 > (topT (0, pl.headD [], pl.headD []) ((pairsOf pl ts).take i)).1 := of_decide_eq_true z
            rw [if_pos z]
            exact ⟨_, rfl, rfl, u, _, rfl, hu⟩
          · have z : ¬ y.1 > (topT (0, pl.headD [], pl.headD []) ((pairsOf pl ts).take i)).1 := fun k => z (decide_eq_true k)
            rw [if_neg z]
            exact ⟨rfl, r, _, rfl, hr2⟩
      · obtain ⟨rfl, r, x3, rfl, hr2⟩ := hP
        rw [wl, List.take_length] at hr2
        exact ⟨r, x3, rfl, S1.trans S2, .tup hr2 (.cons (.int _) (.cons (.str _) (.cons (.str _) .nil)))⟩
    · obtain ⟨r, x3, rfl, SM, hr2⟩ := hM
      refine ⟨_, rfl, q H' _ SM ?_⟩
      rw [(farD_top fine).1]
      exact hr2
end
end Far

namespace Far
open PySem PySem.Spec PyProof.Rows PyProof.V L2
/-! ### max, min, sum of a tuple of whole numbers -/
section
variable {prog : Program} {w : World} {A : Around} {E : Value → Shared → Prop} {s : Shared} {t : Addr} {xs : Array (Int × Tok)}
theorem iter_intTup {Q : Value → Shared → Prop} (hl : s.heap.IsTuple t (intItems xs))
    (h : ∀ s₂ : Shared, s₂ = { s with heap := s.heap.push { cls := .type "tuple_iterator", data := .fields #[.ref t, .int 0 0] } } →
      (s₂.heap.IsTupleIter s.heap.objs.size t 0 ∧ s₂.heap.IsTuple t (intItems xs)) → (∀ b ∈ [s.heap.objs.size, t], b < s₂.heap.objs.size) → t ≠ s.heap.objs.size → Q (.ref s.heap.objs.size) s₂) : wpAny (model prog w) A (pyIter (.ref t)) Q E s := by
  have hlt : t < s.heap.objs.size := by obtain ⟨_, e, _⟩ := hl; exact Heap.lt_size e
  refine wpAny_pyIter_tuple hl (h _ rfl ⟨⟨_, Heap.get?_push_size _ rfl, rfl, rfl⟩, hl.at fun o e => Heap.get?_push_of_some _ e⟩ (fun b hb => ?_) (Nat.ne_of_lt hlt))
  show b < (s.heap.push _).objs.size
  rw [Heap.size_push]
  rcases List.mem_cons.mp hb with rfl | hb
  · exact Nat.lt_succ_self _
  · rcases List.mem_cons.mp hb with rfl | hb
    · exact Nat.lt_succ_of_lt hlt
    · cases hb
theorem old_keptT {s : Shared} {o : Obj} {h' : Heap} (k : ∀ b o', b ∉ [s.heap.objs.size] → (s.heap.push o).get? b = some o' → h'.get? b = some o') : ∀ b o', s.heap.get? b = some o' → h'.get? b = some o' :=
  fun b o' e => k b o' (fun hb => absurd (Heap.lt_size e) ((List.mem_singleton.mp hb) ▸ Nat.lt_irrefl _)) (Heap.get?_push_of_some _ e)
theorem max_intTup {Q : Value → Shared → Prop} (hh : A.handled = none) (hl : s.heap.IsTuple t (intItems xs)) (hne : 0 < xs.size)
    (h : ∀ v h' tk, (intItems xs)[argBest (fun i j => decide (numAt xs i > numAt xs j)) (xs.size - 1)]? = some v → (∀ b o, s.heap.get? b = some o → h'.get? b = some o) → Q v { s with heap := h', toks := tk }) :
    wpAny (model prog w) A (call (.builtin "max") [.ref t]) Q E s := by
  refine call_max_walk (iter_intTup hl fun s₂ e st hfp hlI => ?_)
  subst e
  refine ⟨_, _, _, _, _, _, _, rfl, Walks.tuple (A := A.in1) hh _ t hlI (intItems xs), st, hfp, by simpa [intItems] using hne, CmpOf.ints_gt (numAt xs) (fun _ _ => intItems_at), fun v h' tk hP hk => ?_⟩
  exact h v h' tk (by simpa [intItems] using hP) (old_keptT hk)
theorem min_intTup {Q : Value → Shared → Prop} (hh : A.handled = none) (hl : s.heap.IsTuple t (intItems xs)) (hne : 0 < xs.size)
    (h : ∀ v h' tk, (intItems xs)[argBest (fun i j => decide (numAt xs i < numAt xs j)) (xs.size - 1)]? = some v → (∀ b o, s.heap.get? b = some o → h'.get? b = some o) → Q v { s with heap := h', toks := tk }) :
    wpAny (model prog w) A (call (.builtin "min") [.ref t]) Q E s := by
  refine call_min_walk (iter_intTup hl fun s₂ e st hfp hlI => ?_)
  subst e
  refine ⟨_, _, _, _, _, _, _, rfl, Walks.tuple (A := A.in1) hh _ t hlI (intItems xs), st, hfp, by simpa [intItems] using hne, CmpOf.ints_lt (numAt xs) (fun _ _ => intItems_at), fun v h' tk hP hk => ?_⟩
  exact h v h' tk (by simpa [intItems] using hP) (old_keptT hk)
variable {its : List Value} {ns : List Int}
theorem maxT_raw {Q : Value → Shared → Prop} (hh : A.handled = none) (hl : s.heap.IsTuple t its.toArray) (hi : IntsAre its ns) (hne : 0 < ns.length)
    (h : ∀ h' tk M t', (∀ b o, s.heap.get? b = some o → h'.get? b = some o) → M ∈ ns → (∀ a, a ∈ ns → a ≤ M) → Q (.int M t') { s with heap := h', toks := tk }) : wpAny (model prog w) A (call (.builtin "max") [.ref t]) Q E s := by
  obtain ⟨xs, e⟩ := hi.allInts.items
  have hn : numsOf (intItems xs).toList = ns := by rw [← e]; exact hi.numsOf
  rw [nums_intItems] at hn
  subst hn
  rw [e] at hl
  have hsz : 0 < xs.size := by simpa using hne
  refine max_intTup hh hl hsz fun v h' tk hv hk => ?_
  obtain ⟨t, rfl⟩ := intItems_at hv
  obtain ⟨h1, h2⟩ := argBest_gt (numAt xs) (xs.size - 1)
  refine h h' tk _ t hk ?_ fun a ha => ?_
  · rw [numAt_eq]; exact PySem.getD_mem (by rw [List.length_map, Array.length_toList]; omega)
  · obtain ⟨j, hj, rfl⟩ := mem_getD ha
    rw [List.length_map, Array.length_toList] at hj
    rw [← numAt_eq]; exact h2 j (by omega)
theorem minT_raw {Q : Value → Shared → Prop} (hh : A.handled = none) (hl : s.heap.IsTuple t its.toArray) (hi : IntsAre its ns) (hne : 0 < ns.length)
    (h : ∀ h' tk M t', (∀ b o, s.heap.get? b = some o → h'.get? b = some o) → M ∈ ns → (∀ a, a ∈ ns → M ≤ a) → Q (.int M t') { s with heap := h', toks := tk }) : wpAny (model prog w) A (call (.builtin "min") [.ref t]) Q E s := by
  obtain ⟨xs, e⟩ := hi.allInts.items
  have hn : numsOf (intItems xs).toList = ns := by rw [← e]; exact hi.numsOf
  rw [nums_intItems] at hn
  subst hn
  rw [e] at hl
  have hsz : 0 < xs.size := by simpa using hne
  refine min_intTup hh hl hsz fun v h' tk hv hk => ?_
  obtain ⟨t, rfl⟩ := intItems_at hv
  obtain ⟨h1, h2⟩ := argBest_lt (numAt xs) (xs.size - 1)
  refine h h' tk _ t hk ?_ fun a ha => ?_
  · rw [numAt_eq]; exact PySem.getD_mem (by rw [List.length_map, Array.length_toList]; omega)
  · obtain ⟨j, hj, rfl⟩ := mem_getD ha
    rw [List.length_map, Array.length_toList] at hj
    rw [← numAt_eq]; exact h2 j (by omega)
theorem sumT_raw {Q : Value → Shared → Prop} (hh : A.handled = none) (hl : s.heap.IsTuple t its.toArray) (hi : IntsAre its ns)
    (h : ∀ h' tk t', (∀ b o, s.heap.get? b = some o → h'.get? b = some o) → Q (.int ns.sum t') { s with heap := h', toks := tk }) : wpAny (model prog w) A (call (.builtin "sum") [.ref t]) Q E s := by
  obtain ⟨xs, e⟩ := hi.allInts.items
  have hn : numsOf (intItems xs).toList = ns := by rw [← e]; exact hi.numsOf
  rw [nums_intItems] at hn
  rw [e] at hl
  refine PySem.W.ktm_sumG hh hl fun h' tk t' hk => ?_
  have := h h' tk t' hk
  rw [preSum_eq, List.take_of_length_le (by simp), hn]; exact this
end
section
variable {X : Cx}
def rMaxT (K : PySem.W.Frag) : List V → Hp → VK → Prop := fun vs H Q => ∃ (a : Addr) (ns : List Int), vs = [V.ref a] ∧ SqT K H a (ns.map V.int) ∧ 0 < ns.length ∧ ∀ m, m ∈ ns → (∀ y, y ∈ ns → y ≤ m) → Q (.int m) H
def rMinT (K : PySem.W.Frag) : List V → Hp → VK → Prop := fun vs H Q => ∃ (a : Addr) (ns : List Int), vs = [V.ref a] ∧ SqT K H a (ns.map V.int) ∧ 0 < ns.length ∧ ∀ m, m ∈ ns → (∀ y, y ∈ ns → m ≤ y) → Q (.int m) H
def rSumT (K : PySem.W.Frag) : List V → Hp → VK → Prop := fun vs H Q => ∃ (a : Addr) (ns : List Int), vs = [V.ref a] ∧ SqT K H a (ns.map V.int) ∧ Q (.int ns.sum) H
theorem cr_maxT {K : PySem.W.Frag} (hc : X.calm = true) (eK : X.K = K := by rfl) : CallR X (.builtin "max") (rMaxT K) := by
  subst eK
  intro pins s σ H vs us Q I r h
  obtain ⟨a, ns, rfl, hs, hne, q⟩ := h
  obtain ⟨its, rv, hl, _⟩ := I.tuple hs
  rw [Vals.ref1 r]
  exact maxT_raw (I.ok.hd hc) hl rv.ints hne fun h' tk m t' hk h1 h2 => ⟨.int _, H, I.kept hk, ⟨_, rfl⟩, q m h1 h2⟩
theorem cr_minT {K : PySem.W.Frag} (hc : X.calm = true) (eK : X.K = K := by rfl) : CallR X (.builtin "min") (rMinT K) := by
  subst eK
  intro pins s σ H vs us Q I r h
  obtain ⟨a, ns, rfl, hs, hne, q⟩ := h
  obtain ⟨its, rv, hl, _⟩ := I.tuple hs
  rw [Vals.ref1 r]
  exact minT_raw (I.ok.hd hc) hl rv.ints hne fun h' tk m t' hk h1 h2 => ⟨.int _, H, I.kept hk, ⟨_, rfl⟩, q m h1 h2⟩
theorem cr_sumT {K : PySem.W.Frag} (hc : X.calm = true) (eK : X.K = K := by rfl) : CallR X (.builtin "sum") (rSumT K) := by
  subst eK
  intro pins s σ H vs us Q I r h
  obtain ⟨a, ns, rfl, hs, q⟩ := h
  obtain ⟨its, rv, hl, _⟩ := I.tuple hs
  rw [Vals.ref1 r]
  exact sumT_raw (I.ok.hd hc) hl rv.ints fun h' tk t' hk => ⟨.int _, H, I.kept hk, ⟨_, rfl⟩, q⟩
theorem cr_maxL {K : PySem.W.Frag} (hc : X.calm = true) (eK : X.K = K := by rfl) : CallR X (.builtin "max") (rMax K) := by subst eK; exact cr_max hc
theorem cr_minL {K : PySem.W.Frag} (hc : X.calm = true) (eK : X.K = K := by rfl) : CallR X (.builtin "min") (rMin K) := by subst eK; exact cr_min hc
theorem cr_sumL {K : PySem.W.Frag} (hc : X.calm = true) (eK : X.K = K := by rfl) : CallR X (.builtin "sum") (rSum K) := by subst eK; exact cr_sum hc
end
end Far

namespace Far
open PySem PySem.Spec PyProof.Rows L2
open C8 (pss_cut tCut)
open SX (S)
/-! ### the greatest and the least of whole numbers -/
def mxI : List Int → Int
  | [] => 0
  | x :: r => max x (mxI r)
def mxG : List Int → Int
  | [] => 0
  | [x] => x
  | x :: y :: r => max x (mxG (y :: r))
def mnG : List Int → Int
  | [] => 0
  | [x] => x
  | x :: y :: r => min x (mnG (y :: r))
theorem mxG_in : ∀ {l : List Int}, l ≠ [] → mxG l ∈ l ∧ ∀ y ∈ l, y ≤ mxG l
  | [], h => absurd rfl h
  | [x], _ => ⟨List.mem_singleton.mpr rfl, fun y hy => by rw [List.mem_singleton.mp hy]; exact Int.le_refl _⟩
  | x :: y :: r, _ => by
    obtain ⟨h1, h2⟩ := mxG_in (l := y :: r) (by intro z; cases z)
    show max x (mxG (y :: r)) ∈ _ ∧ _
    refine ⟨?_, fun z hz => ?_⟩
    · by_cases c : x ≤ mxG (y :: r)
      · rw [Int.max_eq_right c]
        exact List.mem_cons_of_mem _ h1
      · rw [Int.max_eq_left (by omega)]
        exact List.mem_cons_self ..
    · show z ≤ max x (mxG (y :: r))
      rcases List.mem_cons.mp hz with q | q
      · rw [q]
        exact Int.le_max_left _ _
      · exact Int.le_trans (h2 z q) (Int.le_max_right _ _)
theorem mnG_in : ∀ {l : List Int}, l ≠ [] → mnG l ∈ l ∧ ∀ y ∈ l, mnG l ≤ y
  | [], h => absurd rfl h
  | [x], _ => ⟨List.mem_singleton.mpr rfl, fun y hy => by rw [List.mem_singleton.mp hy]; exact Int.le_refl _⟩
  | x :: y :: r, _ => by
    obtain ⟨h1, h2⟩ := mnG_in (l := y :: r) (by intro z; cases z)
    show min x (mnG (y :: r)) ∈ _ ∧ _
    refine ⟨?_, fun z hz => ?_⟩
    · by_cases c : x ≤ mnG (y :: r)
      · rw [Int.min_eq_left c]
        exact List.mem_cons_self ..
      · rw [Int.min_eq_right (by omega)]
        exact List.mem_cons_of_mem _ h1
    · show min x (mnG (y :: r)) ≤ z
      rcases List.mem_cons.mp hz with q | q
      · rw [q]
        exact Int.min_le_left _ _
      · exact Int.le_trans (Int.min_le_right _ _) (h2 z q)
theorem mxG_is {l : List Int} {m : Int} (h1 : m ∈ l) (h2 : ∀ y ∈ l, y ≤ m) : m = mxG l := by
  obtain ⟨k1, k2⟩ := mxG_in (l := l) (by intro z; rw [z] at h1; cases h1)
  exact Int.le_antisymm (k2 m h1) (h2 _ k1)
theorem mnG_is {l : List Int} {m : Int} (h1 : m ∈ l) (h2 : ∀ y ∈ l, m ≤ y) : m = mnG l := by
  obtain ⟨k1, k2⟩ := mnG_in (l := l) (by intro z; rw [z] at h1; cases h1)
  exact Int.le_antisymm (h2 _ k1) (k2 m h1)
/-- how far a place is from its farthest -/
noncomputable def rch (pl : List Nm) (ts : List Tie) (u : Nm) : Int := mxG (pl.map fun x => dist ts u x)
theorem map_int (pl : List Nm) (f : Nm → Int) : (pl.map fun x => V.int (f x)) = (pl.map f).map V.int := by rw [List.map_map]; rfl
theorem at_name {pl : List Nm} {i : Nat} {v : V} (hi : ((pl.map S).map V.str)[i]? = some v) : ∃ x, pl[i]? = some x ∧ x ∈ pl ∧ v = .str (S x) ∧ pl.take (i + 1) = pl.take i ++ [x] := by
  rw [List.getElem?_map, List.getElem?_map] at hi
  cases el : pl[i]? with
  | none => rw [el] at hi; cases hi
  | some x => rw [el] at hi; exact ⟨x, rfl, List.mem_of_getElem? el, (Option.some.inj hi).symm, by rw [List.take_add_one, el]; rfl⟩
/-- the places whose number is n -/
def thoseD (pl : List Nm) (f : Nm → Int) (n : Int) : PyData := .tuple ((pl.filter fun x => f x == n).map strD)
theorem dts_S (H : Hp) : ∀ pl : List Nm, DtAll H ((pl.map S).map V.str) (pl.map strD)
  | [] => .nil
  | x :: r => .cons (.str _) (dts_S H r)
theorem dts_I (H : Hp) : ∀ ns : List Int, DtAll H (ns.map V.int) (ns.map PyData.int)
  | [] => .nil
  | x :: r => .cons (.int _) (dts_I H r)
theorem take_snoc_filter {pl : List Nm} {f : Nm → Int} {n : Int} {i : Nat} {x : Nm} (h : pl.take (i + 1) = pl.take i ++ [x]) : (pl.take (i + 1)).filter (fun x => f x == n) = (pl.take i).filter (fun x => f x == n) ++ (if f x = n then [x] else []) := by
  rw [h, List.filter_append]
  by_cases c : f x = n
  · rw [if_pos c, List.filter_cons, if_pos (by simp [c])]
    rfl
  · rw [if_neg c, List.filter_cons, if_neg (by simp [c])]
    rfl
end Far

namespace Far
open PySem PySem.Spec PyProof.Rows L2
open SX (S)
/-! ### along a way the lengths rise -/
theorem Way.rising {pl : List Nm} {ts : List Tie} (F : IsTree pl ts) {u v : Nm} {p : List Nm} {L : Int} (h : Way ts u v p L) : (p.map (dist ts u)).Pairwise (· < ·) ∧ ∀ y ∈ p, dist ts u y ≤ L := by
  induction h with
  | nil =>
    refine ⟨by simp, fun y hy => ?_⟩
    rw [List.mem_singleton.mp hy, (F.dist_self u).1]
    exact Int.le_refl _
  | @snoc v w p L k hw ha hn ih =>
    have hk : 1 ≤ k := ha.elim (fun z => (F.ties _ z).2.2.1) fun z => (F.ties _ z).2.2.1
    have ew : dist ts u w = L + k := (F.is_way (Way.snoc hw ha hn)).2
    refine ⟨?_, fun y hy => ?_⟩
    · rw [List.map_append, List.pairwise_append]
      refine ⟨ih.1, by simp, fun a ha' b hb => ?_⟩
      obtain ⟨y, hy, rfl⟩ := List.mem_map.mp ha'
      have hb : b = dist ts u w := by simpa using hb
      rw [hb, ew]
      have := ih.2 y hy
      omega
    · rcases List.mem_append.mp hy with z | z
      · have := ih.2 y z
        omega
      · rw [List.mem_singleton.mp z, ew]
        exact Int.le_refl _
def cutIx (g : List Int) (W : Int) : Nat := (g.filter fun z => decide (2 * z < W)).length
theorem cutIx_iff {W : Int} : ∀ {g : List Int}, g.Pairwise (· < ·) → ∀ (i : Nat) (h : i < g.length), 2 * g[i] < W ↔ i < cutIx g W
  | [], _, i, h => absurd h (Nat.not_lt_zero _)
  | a :: r, hp, i, h => by
    obtain ⟨h1, h2⟩ := List.pairwise_cons.mp hp
    by_cases c : 2 * a < W
    · have e : cutIx (a :: r) W = cutIx r W + 1 := by
        unfold cutIx
        rw [List.filter_cons, if_pos (by simpa using c)]
        rfl
      rw [e]
      cases i with
      | zero => exact ⟨fun _ => Nat.succ_pos _, fun _ => c⟩
      | succ i =>
        have := cutIx_iff (W := W) h2 i (Nat.lt_of_succ_lt_succ h)
        show 2 * r[i]'(Nat.lt_of_succ_lt_succ h) < W ↔ _
        rw [this]
        omega
    · have hr : ∀ z ∈ r, ¬ 2 * z < W := fun z hz => by
        have := h1 z hz
        omega
      have e : cutIx (a :: r) W = 0 := by
        unfold cutIx
        rw [List.filter_cons, if_neg (by simpa using c), List.filter_eq_nil_iff.mpr (fun z hz => by simpa using hr z hz)]
        rfl
      rw [e]
      cases i with
      | zero => exact ⟨fun z => absurd z c, fun z => absurd z (Nat.lt_irrefl _)⟩
      | succ i => exact ⟨fun z => absurd z (hr _ (List.getElem_mem _)), fun z => absurd z (Nat.not_lt_zero _)⟩
/-! ### halves -/
def halfD (n : Int) : PyData := if n % 2 = 0 then .tuple [.int (n / 2), .int 1] else .tuple [.int n, .int 2]
theorem gcd_two (n : Int) : ((Nat.gcd n.natAbs (2 : Int).natAbs : Nat) : Int) = if n % 2 = 0 then 2 else 1 := by
  show ((Nat.gcd n.natAbs 2 : Nat) : Int) = _
  by_cases c : n % 2 = 0
  · rw [if_pos c, Nat.gcd_eq_right (by omega)]
    rfl
  · rw [if_neg c]
    have h1 : n.natAbs % 2 = 1 := by omega
    have : Nat.gcd n.natAbs 2 = 1 := by
      rw [Nat.gcd_comm, Nat.gcd_rec, h1]
      rfl
    rw [this]
    rfl
/-! ### the middle of the way between two places -/
noncomputable def goneOf (ts : List Tie) (u x : Nm) : List Int := (path ts u x).map (dist ts u)
noncomputable def midK (ts : List Tie) (u x : Nm) : Nat := cutIx (goneOf ts u x) (dist ts u x)
noncomputable def hi (ts : List Tie) (u x : Nm) : Nm := (path ts u x).getD (midK ts u x) []
noncomputable def lo (ts : List Tie) (u x : Nm) : Nm := (path ts u x).getD (midK ts u x - 1) []
/-- the point, and the half -/
noncomputable def pointD (pl : List Nm) (ts : List Tie) (u x : Nm) : PyData :=
  if 2 * dist ts u (hi ts u x) = dist ts u x then .tuple [strD (hi ts u x), strD (hi ts u x), .tuple [.int 0, .int 1]]
  else if pl.idxOf (lo ts u x) < pl.idxOf (hi ts u x) then .tuple [strD (lo ts u x), strD (hi ts u x), halfD (dist ts u x - 2 * dist ts u (lo ts u x))]
  else .tuple [strD (hi ts u x), strD (lo ts u x), halfD (2 * dist ts u (hi ts u x) - dist ts u x)]
structure MidF (pl : List Nm) (ts : List Tie) (u x : Nm) : Prop where
  kl : midK ts u x < (path ts u x).length
  hiE : (path ts u x)[midK ts u x]? = some (hi ts u x)
  hiM : hi ts u x ∈ path ts u x
  ge : dist ts u x ≤ 2 * dist ts u (hi ts u x)
  loE : 2 * dist ts u (hi ts u x) ≠ dist ts u x → 1 ≤ midK ts u x ∧ (path ts u x)[midK ts u x - 1]? = some (lo ts u x) ∧ lo ts u x ∈ path ts u x ∧ 2 * dist ts u (lo ts u x) < dist ts u x
  only : ∀ y ∈ path ts u x, 2 * dist ts u y = dist ts u x → y = hi ts u x
  low : ∀ y ∈ path ts u x, 2 * dist ts u y < dist ts u x → dist ts u y ≤ dist ts u (lo ts u x) ∧ (dist ts u y = dist ts u (lo ts u x) → y = lo ts u x)
  high : ∀ y ∈ path ts u x, dist ts u x < 2 * dist ts u y → dist ts u (hi ts u x) ≤ dist ts u y ∧ (dist ts u y = dist ts u (hi ts u x) → y = hi ts u x)
theorem mid_facts {pl : List Nm} {ts : List Tie} (F : IsTree pl ts) {u x : Nm} (hu : u ∈ pl) (hx : x ∈ pl) : MidF pl ts u x := by
  have w := F.the_way hu hx
  have rise := (w.rising F).1
  have iff := fun i h => cutIx_iff (W := dist ts u x) rise i h
  have gl : ((path ts u x).map (dist ts u)).length = (path ts u x).length := List.length_map _
  have g_at : ∀ (i : Nat) (h : i < (path ts u x).length), ((path ts u x).map (dist ts u))[i]'(by rw [gl]; exact h) = dist ts u ((path ts u x)[i]) := fun i h => List.getElem_map _
  have hk : midK ts u x = cutIx ((path ts u x).map (dist ts u)) (dist ts u x) := rfl
  obtain ⟨q, el⟩ := w.last
  obtain ⟨q', ef⟩ := w.first
  have d0 := (F.dist_self u).1
  have nn := (Way.nonneg (fun e he => (F.ties e he).2.2.1) w).1
  have plen : (path ts u x).length = q.length + 1 := by rw [el]; simp
  have plast : (path ts u x)[q.length]'(by omega) = x := by
    simp [el]
  have pfirst : (path ts u x)[0]'(by omega) = u := by
    simp [ef]
  have kl : midK ts u x < (path ts u x).length := by
    have h := iff q.length (by rw [gl]; omega)
    rw [g_at _ (by omega), plast] at h
    rw [hk]
    have : ¬ q.length < cutIx ((path ts u x).map (dist ts u)) (dist ts u x) := fun z => by
      have := h.mpr z
      omega
    omega
  have inj : ∀ (i j : Nat) (hi : i < (path ts u x).length) (hj : j < (path ts u x).length), i < j → dist ts u ((path ts u x)[i]) < dist ts u ((path ts u x)[j]) := fun i j hi hj lt => by
    have := List.pairwise_iff_getElem.mp rise i j (by rw [gl]; exact hi) (by rw [gl]; exact hj) lt
    rwa [g_at i hi, g_at j hj] at this
  have iff' : ∀ (i : Nat) (h : i < (path ts u x).length), 2 * dist ts u ((path ts u x)[i]) < dist ts u x ↔ i < midK ts u x := fun i h => by
    have := iff i (by rw [gl]; exact h)
    rwa [g_at i h] at this
  have ehi : hi ts u x = (path ts u x)[midK ts u x] := by
    unfold hi
    simp [List.getD, kl]
  have ge : dist ts u x ≤ 2 * dist ts u (hi ts u x) := by
    rw [ehi]
    have := (iff' _ kl).mp
    by_cases c : 2 * dist ts u ((path ts u x)[midK ts u x]) < dist ts u x
    · exact absurd (this c) (Nat.lt_irrefl _)
    · omega
  have elo : lo ts u x = (path ts u x)[midK ts u x - 1]'(by omega) := by
    unfold lo
    simp [List.getD, show midK ts u x - 1 < (path ts u x).length by omega]
  refine ⟨kl, by rw [ehi]; exact List.getElem?_eq_getElem kl, by rw [ehi]; exact List.getElem_mem _, ge, fun ne => ?_, fun y hy e => ?_, fun y hy lt => ?_, fun y hy lt => ?_⟩
  · have k1 : 1 ≤ midK ts u x := by
      by_cases c : 1 ≤ midK ts u x
      · exact c
      · exfalso
        have k0 : midK ts u x = 0 := by omega
        have e0 : hi ts u x = u := by
          rw [ehi]
          simp only [k0]
          exact pfirst
        rw [e0, d0] at ne ge
        omega
    refine ⟨k1, by rw [elo]; exact List.getElem?_eq_getElem _, by rw [elo]; exact List.getElem_mem _, ?_⟩
    rw [elo]
    exact (iff' _ (by omega)).mpr (by omega)
  · obtain ⟨i, hi', rfl⟩ := List.mem_iff_getElem.mp hy
    have ni : ¬ i < midK ts u x := fun z => by
      have := (iff' i hi').mpr z
      omega
    by_cases c : i = midK ts u x
    · subst c
      rw [ehi]
    · have := inj _ _ kl hi' (by omega)
      rw [← ehi] at this
      omega
  · obtain ⟨i, hi', rfl⟩ := List.mem_iff_getElem.mp hy
    have li := (iff' i hi').mp lt
    rw [elo]
    by_cases c : i = midK ts u x - 1
    · subst c
      exact ⟨Int.le_refl _, fun _ => rfl⟩
    · have := inj i (midK ts u x - 1) hi' (by omega) (by omega)
      exact ⟨by omega, fun z => by omega⟩
  · obtain ⟨i, hi', rfl⟩ := List.mem_iff_getElem.mp hy
    have ni : ¬ i < midK ts u x := fun z => by
      have := (iff' i hi').mpr z
      omega
    rw [ehi]
    by_cases c : i = midK ts u x
    · subst c
      exact ⟨Int.le_refl _, fun _ => rfl⟩
    · have := inj _ _ kl hi' (by omega)
      exact ⟨by omega, fun z => by omega⟩
end Far

namespace Far
open PySem PySem.Spec PyProof.Rows L2
open SX (S)
theorem filt_first {α β : Type} (f : α → β) (p : β → Bool) : ∀ (l : List α) (j : Nat) (x : α), l[j]? = some x → p (f x) = true → (∀ i y, i < j → l[i]? = some y → p (f y) = false) → ∃ r, (l.map f).filter p = f x :: r
  | [], j, x, h, _, _ => by simp at h
  | a :: l, 0, x, h, hp, _ => by
    have e : a = x := by simpa using h
    subst e
    exact ⟨(l.map f).filter p, by rw [List.map_cons, List.filter_cons, if_pos hp]⟩
  | a :: l, j + 1, x, h, hp, hn => by
    obtain ⟨r, e⟩ := filt_first f p l j x (by simpa using h) hp fun i y hi hy => hn (i + 1) y (by omega) (by simpa using hy)
    have ha := hn 0 a (by omega) rfl
    exact ⟨r, by rw [List.map_cons, List.filter_cons, if_neg (by rw [ha]; decide)]; exact e⟩
section
variable {pl : List Nm} {ts : List Tie} {b : Int} {bi ei : Nat} {u x : Nm}
theorem none_before (hb : ∀ i y, i < bi → pl[i]? = some y → ∀ z ∈ pl, dist ts y z ≠ b) (hl : bi < pl.length) : ∀ m, m ≤ bi → (prs pl ts m).filter (fun t => t.1 == b) = []
  | 0, _ => rfl
  | m + 1, hm => by
    rw [prs_succ, List.filter_append, none_before hb hl m (by omega), List.nil_append, List.filter_eq_nil_iff]
    intro t ht
    have em : pl[m]? = some (pl.getD m []) := by simp [List.getD, show m < pl.length by omega]
    obtain ⟨y, hy, rfl⟩ := List.mem_map.mp ht
    have := hb m _ (by omega) em y (List.mem_of_mem_drop hy)
    simpa using this
theorem first_far (F : Fine pl ts) (hu : pl[bi]? = some u) (hx : pl[ei]? = some x) (hd : dist ts u x = b) (b1 : 1 ≤ b) (top : ∀ y ∈ pl, ∀ z ∈ pl, dist ts y z ≤ b)
    (hb : ∀ i y, i < bi → pl[i]? = some y → ∀ z ∈ pl, dist ts y z ≠ b) (he : ∀ j z, j < ei → pl[j]? = some z → dist ts u z ≠ b) : topT (0, pl.headD [], pl.headD []) (pairsOf pl ts) = (b, u, x) := by
  have mu := List.mem_of_getElem? hu
  have mx := List.mem_of_getElem? hx
  have lb : bi < pl.length := (List.getElem?_eq_some_iff.mp hu).1
  have le : ei < pl.length := (List.getElem?_eq_some_iff.mp hx).1
  have lt : bi < ei := by
    rcases Nat.lt_trichotomy bi ei with h | h | h
    · exact h
    · subst h
      have : u = x := Option.some.inj (hu.symm.trans hx)
      rw [← this, (F.tree.dist_self u).1] at hd
      omega
    · have := hb ei x h hx u mu
      rw [(F.tree.dist_symm mx mu).1] at this
      exact absurd hd this
  have base : ∃ r, (prs pl ts (bi + 1)).filter (fun t => t.1 == b) = (b, u, x) :: r := by
    rw [prs_succ, List.filter_append, none_before hb lb bi (Nat.le_refl _), List.nil_append]
    have eu : pl.getD bi [] = u := by
      show (pl[bi]?).getD [] = u
      rw [hu]
      rfl
    unfold rowP
    rw [eu]
    obtain ⟨r, e⟩ := filt_first (fun y => ((dist ts u y, u, y) : Tri)) (fun t => t.1 == b) (pl.drop (bi + 1)) (ei - (bi + 1)) x (by rw [List.getElem?_drop, show bi + 1 + (ei - (bi + 1)) = ei by omega]; exact hx) (by simpa using hd) fun i y hi hy => by
      rw [List.getElem?_drop] at hy
      have := he (bi + 1 + i) y (by omega) hy
      simpa using this
    rw [hd] at e
    exact ⟨r, e⟩
  have all : ∀ m, ∃ r, (prs pl ts (bi + 1 + m)).filter (fun t => t.1 == b) = (b, u, x) :: r := fun m => by
    induction m with
    | zero => exact base
    | succ m ih =>
      obtain ⟨r, e⟩ := ih
      refine ⟨r ++ (rowP pl ts (bi + 1 + m)).filter fun t => t.1 == b, ?_⟩
      rw [show bi + 1 + (m + 1) = bi + 1 + m + 1 by omega, prs_succ, List.filter_append, e]
      rfl
  obtain ⟨r, e⟩ := all (pl.length - (bi + 1))
  rw [show bi + 1 + (pl.length - (bi + 1)) = pl.length by omega] at e
  have e : (pairsOf pl ts).filter (fun t => t.1 == b) = (b, u, x) :: r := e
  have mem : (b, u, x) ∈ pairsOf pl ts := by
    have : (b, u, x) ∈ (pairsOf pl ts).filter fun t => t.1 == b := by
      rw [e]
      exact List.mem_cons_self ..
    exact (List.mem_filter.mp this).1
  rcases topT_is (pairsOf pl ts) (0, pl.headD [], pl.headD []) with ⟨_, h2⟩ | ⟨_, ⟨r', h2⟩, h3⟩
  · have := h2 _ mem
    exact absurd this (by show ¬ b ≤ 0; omega)
  · generalize topT (0, pl.headD [], pl.headD []) (pairsOf pl ts) = m at h2 h3
    have hm : m ∈ pairsOf pl ts := by
      have : m ∈ (pairsOf pl ts).filter fun x => x.1 == m.1 := by
        rw [h2]
        exact List.mem_cons_self ..
      exact (List.mem_filter.mp this).1
    obtain ⟨m1, m2, m3⟩ := mem_pairs hm
    have em : m.1 = b := by
      have h4 := h3 _ mem
      have h5 := top _ m1 _ m2
      rw [← m3] at h5
      have h4 : b ≤ m.1 := h4
      omega
    rw [em, e] at h2
    exact (List.cons.inj h2).1.symm
theorem top_in (F : Fine pl ts) : (topT (0, pl.headD [], pl.headD []) (pairsOf pl ts)).2.1 ∈ pl ∧ (topT (0, pl.headD [], pl.headD []) (pairsOf pl ts)).2.2 ∈ pl ∧ (topT (0, pl.headD [], pl.headD []) (pairsOf pl ts)).1 = dist ts (topT (0, pl.headD [], pl.headD []) (pairsOf pl ts)).2.1 (topT (0, pl.headD [], pl.headD []) (pairsOf pl ts)).2.2 := by
  have hh : pl.headD [] ∈ pl := by
    cases hp : pl with
    | nil => exact absurd hp F.ne
    | cons a r => exact List.mem_cons_self ..
  rcases topT_is (pairsOf pl ts) (0, pl.headD [], pl.headD []) with ⟨h1, _⟩ | ⟨_, ⟨r', h2⟩, _⟩
  · rw [h1]
    exact ⟨hh, hh, (F.tree.dist_self _).1.symm⟩
  · generalize topT (0, pl.headD [], pl.headD []) (pairsOf pl ts) = m at h2
    have hm : m ∈ pairsOf pl ts := by
      have : m ∈ (pairsOf pl ts).filter fun x => x.1 == m.1 := by
        rw [h2]
        exact List.mem_cons_self ..
      exact (List.mem_filter.mp this).1
    exact mem_pairs hm
end
noncomputable def topOf (pl : List Nm) (ts : List Tie) : Tri := topT (0, pl.headD [], pl.headD []) (pairsOf pl ts)
/-- what middle_point tells -/
noncomputable def middleD (pl : List Nm) (ts : List Tie) : PyData := .tuple [pointD pl ts (topOf pl ts).2.1 (topOf pl ts).2.2, halfD (topOf pl ts).1]
end Far

namespace Far
open PySem PySem.Spec PyProof.Rows L2
open C8 (pss_cut tCut)
open SX (S)
structure TxtH (mg : Str → Option Value) : Prop where
  len : mg "len" = none
  gcd : mg "gcd" = some (.builtin "math.gcd")
abbrev s_fraction : Stmt := topS 19
abbrev N_fraction : List Str := ["above", "below", "common"]
theorem sc_fraction : FnScope N_fraction ["above", "below"] (defScope s_fraction) := ⟨rfl, rfl, rfl, by decide +kernel, rfl, by decide +kernel, by decide +kernel⟩
abbrev s_half_way : Stmt := topS 18
abbrev N_half_way : List Str := ["tree", "one", "other", "way", "gone", "whole", "at", "there", "here", "place", "length"]
theorem sc_half_way : FnScope N_half_way ["tree", "one", "other"] (defScope s_half_way) := ⟨rfl, rfl, rfl, by decide +kernel, rfl, by decide +kernel, by decide +kernel⟩
abbrev s_middle_point : Stmt := topS 17
abbrev N_middle_point : List Str := ["tree", "greatest", "one", "other"]
theorem sc_middle_point : FnScope N_middle_point ["tree"] (defScope s_middle_point) := ⟨rfl, rfl, rfl, by decide +kernel, rfl, by decide +kernel, by decide +kernel⟩
theorem idx_at {pl : List Nm} (nd : pl.Nodup) {y : Nm} (hy : y ∈ pl) : (pl.map S)[pl.idxOf y]? = some (S y) ∧ ∀ i, i < pl.idxOf y → (pl.map S)[i]? ≠ some (S y) := by
  have h1 : pl.idxOf y < pl.length := List.idxOf_lt_length_of_mem hy
  have h2 : pl[pl.idxOf y] = y := List.getElem_idxOf h1
  refine ⟨by rw [List.getElem?_map, List.getElem?_eq_getElem h1, h2]; rfl, fun i hi h => ?_⟩
  rw [List.getElem?_map, List.getElem?_eq_getElem (by omega)] at h
  have h3 : pl[i] = y := SX.S_inj (Option.some.inj h)
  have := (List.getElem_inj nd).mp (h3.trans h2.symm)
  omega
section
variable {P : Program} {w : World} {K : PySem.W.Frag} {mg : Str → Option Value} {base : Heap}
def spFrac : Sp := fun vs H Q _ => ∃ n : Int, vs = [.int n, .int 2] ∧ ∀ (H' : Hp) (r : V), Same H H' → Dt H' r (halfD n) → Q r H'
theorem ok_fraction {f : Addr} {fd : FuncData} (F : Fun K "_fraction" "_fraction" s_fraction f fd) (T : TxtH mg) : FnOk P w K mg base CX0 1 f fd ["above", "below"] spFrac := by
  refine F.ok sc_fraction (fun vs H Q E h => ?_) (fun cdv A outer s H vs Q E hr h => ?_)
  · obtain ⟨n, rfl, _⟩ := h
    rfl
  · obtain ⟨n, rfl, q⟩ := h
    refine ⟨_, (pss_cons (ps_set (i := 2) sc_fraction.nd rfl (.inl rfl) (pe_callBfun cr_gcd (by rfl) T.gcd (pa_cons (pv 0) (pa_cons (pv 1) pa_nil))))
      (pss_one (ps_ret (pe_tup (pa_cons (pe_op op_fdiv (pv 0) (pv 2)) (pa_cons (pe_op op_fdiv (pv 1) (pv 2)) pa_nil)))))), ?_⟩
    refine ⟨_, rfl, _, rfl, n, 2, rfl, ?_⟩
    rw [gcd_two]
    by_cases c : n % 2 = 0
    · rw [if_pos c]
      refine ⟨_, rfl, _, rfl, _, _, rfl, rfl, ⟨by decide, by decide⟩, _, rfl, _, rfl, _, _, rfl, rfl, ⟨by decide, by decide⟩, (by show 2 ≤ sizeLine; decide), fun r nr => q _ _ (same_new (Same.refl H) nr) ?_⟩
      unfold halfD
      rw [if_pos c]
      exact .tup upd_same (.cons (.int _) (.cons (.int _) .nil))
    · rw [if_neg c]
      refine ⟨_, rfl, _, rfl, _, _, rfl, rfl, ⟨by decide, by decide⟩, _, rfl, _, rfl, _, _, rfl, rfl, ⟨by decide, by decide⟩, (by show 2 ≤ sizeLine; decide), fun r nr => q _ _ (same_new (Same.refl H) nr) ?_⟩
      unfold halfD
      rw [if_neg c]
      refine .tup upd_same (.cons ?_ (.cons (.int _) .nil))
      show Dt _ (.int (n / 1)) (.int n)
      rw [Int.ediv_one]
      exact .int _
def spHalfWay : Sp := fun vs H Q _ => ∃ (v : V) (pl : List Nm) (ts : List Tie) (u x : Nm), vs = [v, .str (S u), .str (S x)] ∧ Dt H v (treeD pl ts) ∧ PlZ H v pl ∧ Fine pl ts ∧ u ∈ pl ∧ x ∈ pl ∧ ∀ (H' : Hp) (r : V), Same H H' → Dt H' r (pointD pl ts u x) → Q r H'
theorem ok_half_way {f : Addr} {fd : FuncData} (F : Fun K "_half_way" "_half_way" s_half_way f fd) (T : TxtH mg) (Cway_between : Cal P w K mg base 3 "way_between" spWay) (Clength_between : Cal P w K mg base 3 "length_between" spLen) (C_fraction : Cal P w K mg base 1 "_fraction" spFrac) : FnOk P w K mg base CX0 4 f fd ["tree", "one", "other"] spHalfWay := by
  refine F.ok sc_half_way (fun vs H Q E h => ?_) (fun cdv A outer s H vs Q E hr h => ?_)
  · obtain ⟨v, pl, ts, u, x, rfl, _⟩ := h
    rfl
  · obtain ⟨v, pl, ts, u, x, rfl, hd, hz, fine, hu, hx, q⟩ := h
    have w := fine.tree.the_way hu hx
    have plen := path_len fine hu hx
    have inP : ∀ y ∈ path ts u x, y ∈ pl := fun y hy => w.inside (fun e he => ⟨(fine.tree.ties e he).1, (fine.tree.ties e he).2.1⟩) hu y hy
    have mf := mid_facts fine.tree hu hx
    have nd := fine.tree.nodup
    refine ⟨_, (pss_cons (ps_set (i := 3) sc_half_way.nd rfl (.inl rfl) (pe_c Cway_between hr (by decide) rfl (pa_cons (pv 0) (pa_cons (pv 1) (pa_cons (pv 2) pa_nil)))))
      (pss_cons (ps_setLc (i := 4) (own := [("place", 9)]) (g := gName 9) (tt := tYes) rfl sc_half_way.nd rfl rfl (sw_true rfl rfl rfl (by decide +kernel)) (pi_tup (pv 3)) (blkOk_by (N := N_half_way) (sc := defScope s_half_way) (by decide +kernel)) (fun _ _ _ _ _ => pg_name (i := 9) sc_half_way.nd rfl (Or.inl rfl)) (fun _ _ _ _ _ => pts_nil) (fun _ _ _ _ _ => (pe_c Clength_between hr (by decide) rfl (pa_cons (pv 0) (pa_cons (pv 1) (pa_cons (pv 9) pa_nil))))))
      (pss_cons (ps_set (i := 5) sc_half_way.nd rfl (.inr rfl) (pe_ix ix_list (pv 4) (pe_un un_neg pe_int) (fun _ _ => rfl)))
      (pss_cons (ps_set (i := 6) sc_half_way.nd rfl (.inl rfl) (pe_callB call_len_seq (by rfl) T.len bt_len (pa_cons (pe_lc (own := [("length", 10)]) (g := gName 10)  rfl sc_half_way.nd (pi_list (pv 4)) (blkOk_by (N := N_half_way) (sc := defScope s_half_way) (by decide +kernel)) (fun _ _ _ _ _ => pg_name (i := 10) sc_half_way.nd rfl (Or.inl rfl)) (fun _ _ _ _ _ => pts_one (pt_cmpR op_lt (pe_op op_mul pe_int (pv 10)) (pv 5) (nomark _))) (fun _ _ _ _ _ => (pv 10))) pa_nil)))
      (pss_cons (ps_set (i := 7) sc_half_way.nd rfl (.inl rfl) (pe_ix ix_tup (pv 3) (pv 6) (fun _ _ => rfl)))
      (pss_cut (ps_if (pt_cmpR op_eq (pe_op op_mul pe_int (pe_ix ix_list (pv 4) (pv 6) (fun _ _ => rfl))) (pv 5) (nomark _))
        (pss_one (ps_ret (pe_tup (pa_cons (pv 7) (pa_cons (pv 7) (pa_cons (pe_tup (pa_cons pe_int (pa_cons pe_int pa_nil))) pa_nil))))))
        pss_nil)
      (pss_cons (ps_set (i := 8) sc_half_way.nd rfl (.inl rfl) (pe_ix ix_tup (pv 3) (pe_op op_sub (pv 6) pe_int) (fun _ _ => rfl)))
      (pss_cut (ps_if (pt_cmpR op_lt (pe_ixZ (pe_ix ix_tup (pv 0) pe_int (fun _ _ => rfl)) (pv 8)) (pe_ixZ (pe_ix ix_tup (pv 0) pe_int (fun _ _ => rfl)) (pv 7)) (nomark _))
        (pss_one (ps_ret (pe_tup (pa_cons (pv 8) (pa_cons (pv 7) (pa_cons (pe_c C_fraction hr (by decide) rfl (pa_cons (pe_op op_sub (pv 5) (pe_op op_mul pe_int (pe_ix ix_list (pv 4) (pe_op op_sub (pv 6) pe_int) (fun _ _ => rfl)))) (pa_cons pe_int pa_nil))) pa_nil))))))
        pss_nil)
      (pss_one (ps_ret (pe_tup (pa_cons (pv 7) (pa_cons (pv 8) (pa_cons (pe_c C_fraction hr (by decide) rfl (pa_cons (pe_op op_sub (pe_op op_mul pe_int (pe_ix ix_list (pv 4) (pv 6) (fun _ _ => rfl))) (pv 5)) (pa_cons pe_int pa_nil))) pa_nil)))))))))))))), ?_⟩
    refine ⟨_, rfl, _, rfl, _, rfl, v, pl, ts, u, x, rfl, hd, fine, hu, hx, fun H1 p S1 np hp => ?_⟩
    refine ⟨_, rfl, p, rfl, ⟨_, SqT.of hp⟩, fun C nC => ?_⟩
    refine lc_tup (K := K) (a := p) (xs := ((path ts u x).map S).map V.str) (fun i H' => Same H1 H' ∧ H' C = some (.lst ((((path ts u x).take i).map (dist ts u)).map V.int))) ⟨same_new (Same.refl H1) nC, upd_same⟩ (fun i H' _ hP => SqT.of (hP.1 _ _ hp)) (fun i v' H' hi hP => ?_) (fun H' hP => ?_)
    · obtain ⟨sm, hC⟩ := hP
      obtain ⟨y, ey, hy, rfl, et⟩ := at_name hi
      refine ⟨rfl, _, rfl, _, rfl, _, rfl, v, pl, ts, u, y, rfl, Dt.keep (TK.of (S1.trans sm)) hd, fine, hu, inP y hy, fun H2 S2 => ?_⟩
      refine ⟨_, S2 _ _ hC, ?_, same_put (sm.trans S2) nC, ?_⟩
      · rw [List.length_map, List.length_map, List.length_take]
        exact sz_lt (by omega)
      · rw [upd_same, et, List.map_append, List.map_append]
        rfl
    · obtain ⟨sm, hC⟩ := hP
      rw [List.length_map, List.length_map, List.take_length] at hC
      have S2 := S1.trans sm
      have hp2 := sm _ _ hp
      have glast : atI (((path ts u x).map (dist ts u)).map V.int) (-1) = some (.int (dist ts u x)) := by
        obtain ⟨q', el⟩ := w.last
        rw [el, List.map_append, List.map_append]
        exact atI_last _ _
      refine ⟨_, rfl, _, rfl, C, _, -1, _, rfl, rfl, SqL.of hC, glast, ?_⟩
      have hgl : ((path ts u x).map (dist ts u)).length = (path ts u x).length := List.length_map _
      refine ⟨_, rfl, C, rfl, ⟨_, SqL.of hC⟩, fun B nB => ?_⟩
      refine lc_list (K := K) (a := C) (xs := ((path ts u x).map (dist ts u)).map V.int) (fun i H'' => Same H' H'' ∧ H'' B = some (.lst (((((path ts u x).map (dist ts u)).take i).filter fun z => decide (2 * z < dist ts u x)).map V.int))) ⟨same_new (Same.refl H') nB, upd_same⟩ (fun i H'' _ hP => SqL.of (hP.1 _ _ hC)) (fun i v' H'' hi hP => ?_) (fun H'' hP => ?_)
      · obtain ⟨sm2, hB⟩ := hP
        rw [List.getElem?_map] at hi
        cases em : ((path ts u x).map (dist ts u))[i]? with
        | none => rw [em] at hi; cases hi
        | some m =>
          rw [em] at hi
          have ev : v' = .int m := (Option.some.inj hi).symm
          subst ev
          have et : ((path ts u x).map (dist ts u)).take (i + 1) = ((path ts u x).map (dist ts u)).take i ++ [m] := by rw [List.take_add_one, em]; rfl
          refine ⟨rfl, _, rfl, _, _, rfl, rfl, .inl ⟨by decide, by decide⟩, _, rfl, _, _, rfl, rfl, _, rfl, ?_⟩
          rw [et, List.filter_append]
          refine ite2 (fun z => ?_) (fun z => ?_)
          · refine ⟨_, rfl, _, hB, ?_, same_put sm2 nB, ?_⟩
            · rw [List.length_map]
              have := List.length_filter_le (fun z => decide (2 * z < dist ts u x)) (((path ts u x).map (dist ts u)).take i)
              rw [List.length_take] at this
              exact sz_lt (by omega)
            · rw [upd_same, List.filter_cons, if_pos z, List.map_append]
              rfl
          · rw [List.filter_cons, if_neg z, List.filter_nil, List.append_nil]
            exact ⟨sm2, hB⟩
      · obtain ⟨sm2, hB⟩ := hP
        rw [List.length_map, List.take_length] at hB
        have S3 := S2.trans sm2
        have hp3 := sm2 _ _ hp2
        have hC3 := sm2 _ _ hC
        refine ⟨B, _, rfl, .inl (SqL.of hB), ?_⟩
        rw [List.length_map]
        have ek : ((((path ts u x).map (dist ts u)).filter fun z => decide (2 * z < dist ts u x)).length : Int) = (midK ts u x : Int) := rfl
        rw [ek]
        obtain ⟨t, a, b, o, rfl, ht, od, haz⟩ := hz
        have gw : ∀ {k : Nat} {y : Nm}, (path ts u x)[k]? = some y → atI (((path ts u x).map S).map V.str) (k : Int) = some (.str (S y)) := fun h => atI_nat (by rw [List.getElem?_map, List.getElem?_map, h]; rfl)
        have gg : ∀ {k : Nat} {y : Nm}, (path ts u x)[k]? = some y → atI (((path ts u x).map (dist ts u)).map V.int) (k : Int) = some (.int (dist ts u y)) := fun h => atI_nat (by rw [List.getElem?_map, List.getElem?_map, h]; rfl)
        refine ⟨_, rfl, _, rfl, p, _, (midK ts u x : Int), _, rfl, rfl, SqT.of hp3, gw mf.hiE, ?_⟩
        refine ⟨fun σ3 H3 => σ3 = [some (.ref t), some (.str (S u)), some (.str (S x)), some (.ref p), some (.ref C), some (.int (dist ts u x)), some (.int (midK ts u x : Nat)), some (.str (S (hi ts u x))), none, none, none] ∧ H3 = H'' ∧ 2 * dist ts u (hi ts u x) ≠ dist ts u x, ?_, fun σ3 H3 hM => ?_⟩
        · refine ⟨_, rfl, _, rfl, C, _, (midK ts u x : Int), _, rfl, rfl, SqL.of hC3, gg mf.hiE, _, _, rfl, rfl, .inl ⟨by decide, by decide⟩, _, rfl, rfl, _, rfl, ?_⟩
          refine ite2 (fun z => ?_) (fun z => ⟨rfl, rfl, fun k => z (decide_eq_true (congrArg V.int k))⟩)
          have z : 2 * dist ts u (hi ts u x) = dist ts u x := V.int.inj (of_decide_eq_true z)
          refine ⟨_, rfl, _, rfl, (by show 2 ≤ sizeLine; decide), fun t1 nt1 => ⟨(by show 3 ≤ sizeLine; decide), fun t2 nt2 => ?_⟩⟩
          refine q _ _ (same_new (same_new S3 nt1) nt2) ?_
          unfold pointD
          rw [if_pos z]
          exact .tup upd_same (.cons (.str _) (.cons (.str _) (.cons (.tup ((TK.new nt2).tup _ _ upd_same) (.cons (.int _) (.cons (.int _) .nil))) .nil)))
        · obtain ⟨rfl, rfl, ne⟩ := hM
          obtain ⟨k1, loE, loM, loL⟩ := mf.loE ne
          have ek1 : (midK ts u x : Int) - 1 = ((midK ts u x - 1 : Nat) : Int) := by omega
          refine ⟨_, rfl, _, rfl, _, _, rfl, rfl, p, _, (midK ts u x : Int) - 1, _, rfl, rfl, SqT.of hp3, by rw [ek1]; exact gw loE, ?_⟩
          obtain ⟨i1, i2⟩ := idx_at nd (inP _ loM)
          obtain ⟨j1, j2⟩ := idx_at nd (inP _ mf.hiM)
          have ht3 := S3 _ _ ht
          have ha3 := S3 _ _ haz
          refine ⟨fun σ4 H4 => σ4 = [some (.ref t), some (.str (S u)), some (.str (S x)), some (.ref p), some (.ref C), some (.int (dist ts u x)), some (.int (midK ts u x : Nat)), some (.str (S (hi ts u x))), some (.str (S (lo ts u x))), none, none] ∧ H4 = H3 ∧ ¬ pl.idxOf (lo ts u x) < pl.idxOf (hi ts u x), ?_, fun σ4 H4 hM => ?_⟩
          · refine ⟨_, rfl, t, _, 0, .ref a, rfl, rfl, SqT.of ht3, atI_nat (j := 0) rfl, a, _, o, rfl, od, ha3, _, rfl, rfl, _, _, rfl, i1, i2, ?_⟩
            refine ⟨_, rfl, t, _, 0, .ref a, rfl, rfl, SqT.of ht3, atI_nat (j := 0) rfl, a, _, o, rfl, od, ha3, _, rfl, rfl, _, _, rfl, j1, j2, _, _, rfl, rfl, _, rfl, ?_⟩
            refine ite2 (fun z => ?_) (fun z => ⟨rfl, rfl, fun k => z (decide_eq_true (by omega))⟩)
            have z : pl.idxOf (lo ts u x) < pl.idxOf (hi ts u x) := by
              have := of_decide_eq_true z
              omega
            refine ⟨_, rfl, _, rfl, _, rfl, _, rfl, _, rfl, _, _, rfl, rfl, C, _, (midK ts u x : Int) - 1, _, rfl, rfl, SqL.of hC3, by rw [ek1]; exact gg loE, _, _, rfl, rfl, .inl ⟨by decide, by decide⟩, _, _, rfl, rfl, _, rfl, fun H5 r S5 hr5 => ?_⟩
            refine ⟨(by show 3 ≤ sizeLine; decide), fun t2 nt2 => ?_⟩
            refine q _ _ (same_new (S3.trans S5) nt2) ?_
            unfold pointD
            rw [if_neg ne, if_pos z]
            exact .tup upd_same (.cons (.str _) (.cons (.str _) (.cons (Dt.keep (TK.new nt2) hr5) .nil)))
          · obtain ⟨rfl, rfl, nlt⟩ := hM
            refine ⟨_, rfl, _, rfl, _, rfl, _, rfl, C, _, (midK ts u x : Int), _, rfl, rfl, SqL.of hC3, gg mf.hiE, _, _, rfl, rfl, .inl ⟨by decide, by decide⟩, _, rfl, _, _, rfl, rfl, _, rfl, fun H5 r S5 hr5 => ?_⟩
            refine ⟨(by show 3 ≤ sizeLine; decide), fun t2 nt2 => ?_⟩
            refine q _ _ (same_new (S3.trans S5) nt2) ?_
            unfold pointD
            rw [if_neg ne, if_neg nlt]
            exact .tup upd_same (.cons (.str _) (.cons (.str _) (.cons (Dt.keep (TK.new nt2) hr5) .nil)))
def spMp : Sp := fun vs H Q _ => ∃ (v : V) (pl : List Nm) (ts : List Tie), vs = [v] ∧ Dt H v (treeD pl ts) ∧ PlZ H v pl ∧ Fine pl ts ∧ ∀ (H' : Hp) (r : V), Same H H' → Dt H' r (middleD pl ts) → Q r H'
theorem ok_mp {f : Addr} {fd : FuncData} (F : Fun K "middle_point" "middle_point" s_middle_point f fd) (Cfarthest : Cal P w K mg base 5 "farthest" spFarthest) (C_half_way : Cal P w K mg base 4 "_half_way" spHalfWay) (C_fraction : Cal P w K mg base 1 "_fraction" spFrac) : FnOk P w K mg base CX0 6 f fd ["tree"] spMp := by
  refine F.ok sc_middle_point (fun vs H Q E h => ?_) (fun cdv A outer s H vs Q E hr h => ?_)
  · obtain ⟨v, pl, ts, rfl, _⟩ := h
    rfl
  · obtain ⟨v, pl, ts, rfl, hd, hz, fine, q⟩ := h
    obtain ⟨tu, tx, td⟩ := top_in fine
    refine ⟨_, (pss_cons (ps_asg (pe_c Cfarthest hr (by decide) rfl (pa_cons (pv 0) pa_nil)) (pg_tup rfl (pgs_cons (pg_name (i := 1) sc_middle_point.nd rfl (.inl rfl)) (pgs_cons (pg_name (i := 2) sc_middle_point.nd rfl (.inl rfl)) (pgs_cons (pg_name (i := 3) sc_middle_point.nd rfl (.inl rfl)) pgs_nil)))))
      (pss_one (ps_ret (pe_tup (pa_cons (pe_c C_half_way hr (by decide) rfl (pa_cons (pv 0) (pa_cons (pv 2) (pa_cons (pv 3) pa_nil)))) (pa_cons (pe_c C_fraction hr (by decide) rfl (pa_cons (pv 1) (pa_cons pe_int pa_nil))) pa_nil)))))), ?_⟩
    refine ⟨_, rfl, v, pl, ts, rfl, hd, fine, fun H1 r S1 hr1 => ?_⟩
    rw [(farD_top fine).1] at hr1
    obtain ⟨t1, rfl, ht1⟩ := dt_tri hr1
    refine ⟨t1, _, rfl, SqT.of ht1, rfl, _, _, rfl, _, _, rfl, _, _, rfl, rfl, ?_⟩
    refine ⟨_, rfl, _, rfl, _, rfl, v, pl, ts, _, _, rfl, Dt.keep (TK.of S1) hd, hz.same S1, fine, tu, tx, fun H2 r2 S2 hr2 => ?_⟩
    refine ⟨_, rfl, _, rfl, fun H3 r3 S3 hr3 => ?_⟩
    refine ⟨(by show 2 ≤ sizeLine; decide), fun t2 nt2 => ?_⟩
    refine q _ _ (same_new ((S1.trans S2).trans S3) nt2) ?_
    exact .tup upd_same (.cons (Dt.keep ((TK.of S3).trans (TK.new nt2)) hr2) (.cons (Dt.keep (TK.new nt2) hr3) .nil))
end
end Far

namespace Far
open PySem PySem.Spec PyProof.Rows L2
/-- t + u, neither empty: the new tuple known through and through -/
def rCatZ (K : PySem.W.Frag) : R2 := fun x y H Q => ∃ a b xs ys, x = .ref a ∧ y = .ref b ∧ SqT K H a xs ∧ SqT K H b ys ∧ xs ≠ [] ∧ ys ≠ [] ∧ xs.length + ys.length ≤ sizeLine ∧ ∀ (p : Addr) (o : Obj), H p = none → o.dict = none → Q (.ref p) (upd H p (.frz o (.tup (xs ++ ys))))
theorem op_catZ {X : Cx} : OpR X (binaryOp .Add) (rCatZ X.K) := by
  intro pins s σ H x y v u Q I rx ry h
  obtain ⟨a, b, xs, ys, rfl, rfl, ha, hb, hx, hy, hz, q⟩ := h
  cases rx
  cases ry
  obtain ⟨its, r1, p1, _⟩ := I.tuple ha
  obtain ⟨its2, r2, p2, _⟩ := I.tuple hb
  refine HT.cat_tup p1 p2 (fun z => hx (r1.nil_iff.mp z)) (fun z => absurd (r2.nil_iff.mp z) hy) (fun z => ?_) (by rw [← r1.length, ← r2.length]; exact hz)
  refine ⟨.ref s.heap.objs.size, _, I.laid (t' := s.toks) (o := .frz { cls := .type "tuple", data := .seq (its ++ its2).toArray } (.tup (xs ++ ys))) (fun b ob q => Heap.get?_push_of_some _ q) (Nat.le_refl _) ?_, rfl, q _ _ (I.hok.fresh (Nat.le_refl _)) rfl⟩
  exact (show ObjOk X.prog X.w _ _ _ (.frz _ (.tup (xs ++ ys))) from ⟨Heap.get?_push_size _ rfl, by rw [List.length_append]; exact hz, _, r1.append r2, IsTup.new _ _⟩)
end Far

namespace Far
open PySem PySem.Spec PyProof.Rows L2
open C8 (pss_cut tCut)
open SX (S)
/-! ### rules with the written part named -/
theorem slTK {X : Cx} {K : PySem.W.Frag} (e : X.K = K := by rfl) : SlR X (rSlT K) := by
  subst e
  exact sl_tup
theorem slLK {X : Cx} {K : PySem.W.Frag} (e : X.K = K := by rfl) : SlR X (rSlL K) := by
  subst e
  exact sl_list
theorem pi_tupK {X : Cx} {K : PySem.W.Frag} {tg l : Expr} {tl : TE} (hl : PE X l tl) (e : X.K = K := by rfl) : PI X tg l (iTup K tl) := by
  subst e
  exact pi_tup hl
theorem pi_listK {X : Cx} {K : PySem.W.Frag} {tg l : Expr} {tl : TE} (hl : PE X l tl) (e : X.K = K := by rfl) : PI X tg l (iList K tl) := by
  subst e
  exact pi_list hl
theorem inK {X : Cx} {K : PySem.W.Frag} (e : X.K = K := by rfl) : OpR X (compareOp .In) (rIn K false) := by
  subst e
  exact op_in_seq
theorem notInK {X : Cx} {K : PySem.W.Frag} (e : X.K = K := by rfl) : OpR X (compareOp .NotIn) (rIn K true) := by
  subst e
  exact op_notIn_seq
theorem hd65 {A : Around} {k : Nat} (hr : Room k A) (h : 2 ≤ k) : A.units + 65 < cLine := by
  have := hr.un
  omega
/-! ### a class of one's own: its methods, which may raise, its making -/
/-- a method of the class at C that may be called -/
structure CalM (P : Program) (w : World) (K : PySem.W.Frag) (mg : Str → Option Value) (base : Heap) (k : Nat) (C : Addr) (m : Str) (sp : Sp) : Prop where
  ex : ∃ (f : Addr) (fd : FuncData) (ps : List Str), FnOk P w K mg base (L2.CX P w) k f fd ps sp ∧ Cls K C ∧ Meth K C m f ∧ Binds K fd ps []
def tMethX (C : Addr) (m : Str) (sp : Sp) (W : WX) (ta : TE) (t : TA) : TE := fun σ H Q => ta σ H fun x H1 => ∃ a dx fs, x = .ref a ∧ H1 a = some (.ins C dx fs) ∧ fs.lookup m = none ∧ t σ H1 fun vs H2 => sp (x :: vs) H2 Q (WE W σ)
theorem pe_mX {X : Cx} {W : WX} {k j : Nat} {C : Addr} {m : Str} {sp : Sp} {apos pos : Pos} {o e : Expr} {es : List Expr} {ta : TE} {t : TA} {pl : Sem Bool} (tk : Takes X W) (c : CalM X.prog X.w X.K X.mg X.base k C m sp) (hr : Room j X.A) (hk : k ≤ j) (he : PE X o ta) (ha : PA X (e :: es) t)
    (hst : starEach (e :: es) X.env = (false, eval e X.env) :: starEach es X.env := by rfl) (hpl : (backTo pos (starEach es X.env)).any (·.1) = false := by rfl)
    (ht : eval (.Call (.Attribute o m apos) (e :: es) [] pos) X.env = (do
      let ov ← eval o X.env
      standAt apos.atName
      let (f, first) ← holding [ov] (getMethod ov m pl)
      callWith pos f first (backTo pos (starEach (e :: es) X.env)) (backToKw pos (keywordEach [] X.env))) := by rfl) :
    PE X (.Call (.Attribute o m apos) (e :: es) [] pos) (tMethX C m sp W ta t) := by
  obtain ⟨f, fd, ps, F, cl, hm, hb⟩ := c.ex
  refine ⟨fun pins s σ H Q I h => ?_⟩
  refine PySem.W.methodCall_KW (pl := pl) (thn (he.run pins s σ H _ I h) fun u s1 ⟨x, H1, I1, rx, a, dx, fs, ex, ea, l, q⟩ => ?_) ht
  subst ex
  obtain rfl : u = Value.ref a := rx
  refine getmeth_ok I1 ea cl hm l ?_
  refine PySem.W.callWith_K (first := [.ref a]) (h₀ := X.base) I.ok.mod.kin hm.kp (thn (ha.run pos pins s1 σ H1 _ I1 q) fun us s2 ⟨vs, H2, I2, r, q2⟩ => ⟨I2.kIn, ?_⟩) hst hpl
  exact run_fnS (us := .ref a :: us) (vs := .ref a :: vs) F (hr.mono hk) hb (passAt tk σ) I2 (.cons rfl r) q2
theorem pe_mX0 {X : Cx} {W : WX} {k j : Nat} {C : Addr} {m : Str} {sp : Sp} {apos pos : Pos} {o : Expr} {ta : TE} {pl : Sem Bool} (tk : Takes X W) (c : CalM X.prog X.w X.K X.mg X.base k C m sp) (hr : Room j X.A) (hk : k ≤ j) (he : PE X o ta)
    (ht : eval (.Call (.Attribute o m apos) [] [] pos) X.env = (do
      let ov ← eval o X.env
      standAt apos.atName
      let (f, first) ← holding [ov] (getMethod ov m pl)
      callWith pos f first (backTo pos (starEach [] X.env)) (backToKw pos (keywordEach [] X.env))) := by rfl) :
    PE X (.Call (.Attribute o m apos) [] [] pos) (tMethX C m sp W ta tNil) := by
  obtain ⟨f, fd, ps, F, cl, hm, hb⟩ := c.ex
  refine ⟨fun pins s σ H Q I h => ?_⟩
  refine PySem.W.methodCall_KW (pl := pl) (thn (he.run pins s σ H _ I h) fun u s1 ⟨x, H1, I1, rx, a, dx, fs, ex, ea, l, q⟩ => ?_) ht
  subst ex
  obtain rfl : u = Value.ref a := rx
  refine getmeth_ok I1 ea cl hm l ?_
  refine PySem.W.callWith_K0 (first := [.ref a]) I1.kIn hm.kp ?_
  exact run_fnS (us := [.ref a]) (vs := [.ref a]) F (hr.mono hk) hb (passAt tk σ) I1 (.cons rfl .nil) q
/-- the class at C, whose __init__ keeps the promise -/
structure CalK (P : Program) (w : World) (K : PySem.W.Frag) (mg : Str → Option Value) (base : Heap) (k : Nat) (C : Addr) (x : Str) (sp : Sp) : Prop where
  ex : ∃ (f : Addr) (fd : FuncData) (ps : List Str), FnOk P w K mg base CX0 k f fd ps sp ∧ Mk K C f ∧ mg x = some (.ref C) ∧ Binds K fd ps []
theorem pe_mk {X : Cx} {k j : Nat} {C : Addr} {x : Str} {sp : Sp} {p pos : Pos} {e : Expr} {es : List Expr} {t : TA} (c : CalK X.prog X.w X.K X.mg X.base k C x sp) (hr : Room j X.A) (hk : k + 1 ≤ j) (hg : Gl X x) (ha : PA X (e :: es) t)
    (hdb : (x == ("__debug__" : Str)) = false := by decide) (he : starEach (e :: es) X.env = (false, eval e X.env) :: starEach es X.env := by rfl) (hpl : (backTo pos (starEach es X.env)).any (·.1) = false := by rfl) :
    PE X (.Call (.Name x p) (e :: es) [] pos) (tMake C sp [] E0 t) := by
  obtain ⟨f, fd, ps, F, M, hm, b⟩ := c.ex
  exact pe_make M F (hr.mono hk) hg hm b .nil pass0 ha hdb he hpl
end Far

namespace Far
open PySem PySem.Spec PyProof.Rows L2
open C8 (pss_cut tCut)
open SX (S)
/-! ### walks over tuples and lists, whatever a turn does -/
theorem walk_tup {K : PySem.W.Frag} {a : Addr} {xs : List V} {B : (Hp → Prop) → V → Hp → Prop} {H0 : Hp} {Qd : Hp → Prop} (Pv : Nat → Hp → Prop) (h0 : Pv 0 H0) (hl : ∀ i H, i ≤ xs.length → Pv i H → SqT K H a xs) (hs : ∀ i x H, xs[i]? = some x → Pv i H → B (Pv (i + 1)) x H) (hd : ∀ H, Pv xs.length H → Qd H) :
    ∃ W : Nat → Nat → Hp → Prop, (∃ m, W 0 m H0) ∧ ∀ i m H, W i m H → ((Itt K a).stop i H ∧ Qd H) ∨ ((Itt K a).go i H ∧ ∃ Nx : Hp → Prop, (∀ H', Nx H' → ∃ m', m' < m ∧ W (i + 1) m' H') ∧ ∀ x H', (Itt K a).yld i H x H' → B Nx x H') := by
  refine ⟨fun i m H => m = xs.length - i ∧ i ≤ xs.length ∧ Pv i H, ⟨xs.length, by simp, Nat.zero_le _, h0⟩, ?_⟩
  rintro i m H ⟨rfl, hi, p⟩
  have q := hl i H hi p
  by_cases hlt : i < xs.length
  · refine .inr ⟨⟨xs, xs[i], q, by simp [hlt]⟩, Pv (i + 1), fun H' p' => ⟨xs.length - (i + 1), by omega, rfl, hlt, p'⟩, fun x H' y => ?_⟩
    obtain ⟨e, y⟩ := y
    subst e
    exact hs i x _ (y xs q) p
  · have e : i = xs.length := by omega
    subst e
    exact .inl ⟨⟨xs, q, Nat.le_refl _⟩, hd H p⟩
theorem tie_at {H : Hp} {i : Nat} {vs : List V} {ts : List Tie} {v : V} (h : DtAll H vs (ts.map tieD)) (hi : vs[i]? = some v) : ∃ (t : Tie) (p : Addr), ts[i]? = some t ∧ v = .ref p ∧ H p = some (.tup [.str (S t.1), .str (S t.2.1), .int t.2.2]) := by
  obtain ⟨d, hd, hv⟩ := DtAll.get h hi
  rw [List.getElem?_map] at hd
  cases e : ts[i]? with
  | none =>
    rw [e] at hd
    cases hd
  | some t =>
    rw [e] at hd
    have ed : d = tieD t := (Option.some.inj hd).symm
    subst ed
    obtain ⟨p, rfl, hp⟩ := dt_tie hv
    exact ⟨t, p, rfl, rfl, hp⟩
/-! ### how many ties a place has -/
def deg (ts : List Tie) (x : Nm) : Nat := (ts.map (·.1)).countP (fun z => decide (z = x)) + (ts.map (·.2.1)).countP (fun z => decide (z = x))
def ends (ts : List Tie) : List Nm := ts.flatMap fun t => [t.1, t.2.1]
theorem ends_deg (x : Nm) : ∀ ts : List Tie, (ends ts).countP (fun z => decide (z = x)) = deg ts x
  | [] => rfl
  | t :: r => by
    have ih := ends_deg x r
    unfold ends deg at *
    rw [List.flatMap_cons, List.countP_append, ih]
    simp only [List.map_cons, List.countP_cons, List.countP_nil]
    omega
def leavesOf (pl : List Nm) (ts : List Tie) : List Nm := pl.filter fun x => decide (deg ts x = 1)
theorem eqV_S (a b : Nm) : eqV (.str (S a)) (.str (S b)) = decide (a = b) := by
  show (S a == S b) = _
  exact SX.S_beq_eq
theorem count_S (x : Nm) : ∀ ls : List Nm, (((ls.map S).map V.str).countP fun z => eqV z (.str (S x))) = ls.countP fun z => decide (z = x)
  | [] => rfl
  | l :: r => by
    rw [List.map_cons, List.map_cons, List.countP_cons, List.countP_cons, count_S x r, eqV_S]
structure TxtK0 (mg : Str → Option Value) : Prop where
  tuple : mg "tuple" = none
  enumerate : mg "enumerate" = none
abbrev s_leaves_of : Stmt := topS 21
abbrev N_leaves_of : List Str := ["tree", "places", "ties", "ends", "tie", "end", "place"]
theorem sc_leaves_of : FnScope N_leaves_of ["tree"] (defScope s_leaves_of) := ⟨rfl, rfl, rfl, by decide +kernel, rfl, by decide +kernel, by decide +kernel⟩
section
variable {P : Program} {w : World} {K : PySem.W.Frag} {mg : Str → Option Value} {base : Heap}
def spLeaves : Sp := fun vs H Q _ => ∃ (v : V) (pl : List Nm) (ts : List Tie), vs = [v] ∧ Dt H v (treeD pl ts) ∧ pl.length ≤ 1000 ∧ ts.length ≤ 1000 ∧ ∀ (H' : Hp) (q : Addr), Same H H' → H q = none → H' q = some (.tup (((leavesOf pl ts).map S).map V.str)) → Q (.ref q) H'
theorem ok_leaves_of {f : Addr} {fd : FuncData} (F : Fun K "leaves_of" "leaves_of" s_leaves_of f fd) (T : TxtK0 mg) : FnOk P w K mg base CX0 1 f fd ["tree"] spLeaves := by
  refine F.ok sc_leaves_of (fun vs H Q E h => ?_) (fun cdv A outer s H vs Q E hr h => ?_)
  · obtain ⟨v, pl, ts, rfl, _⟩ := h
    rfl
  · obtain ⟨v, pl, ts, rfl, hd, l1, l2, q⟩ := h
    obtain ⟨t, a, b, vs, rfl, ht, ha, hb, hA⟩ := dt_tree hd
    have vl : vs.length = ts.length := by
      have := DtAll.len hA
      rwa [List.length_map] at this
    refine ⟨_, (pss_cons (ps_asg (pv 0) (pg_tup rfl (pgs_cons (pg_name (i := 1) sc_leaves_of.nd rfl (.inl rfl)) (pgs_cons (pg_name (i := 2) sc_leaves_of.nd rfl (.inl rfl)) pgs_nil))))
      (pss_cons (ps_set (i := 3) sc_leaves_of.nd rfl (.inr rfl) (pe_lc2 (own := [("tie", 4), ("end", 5)]) (vs1 := [5]) (g := gName 4) (g1 := gName 5) (tt := tYes) (tt1 := tYes) rfl sc_leaves_of.nd (pi_tup (pv 2)) (blkOk_by (N := N_leaves_of) (sc := defScope s_leaves_of) (by decide +kernel)) (by decide) (fun _ _ _ _ _ => (pg_name (i := 4) sc_leaves_of.nd rfl (.inl rfl))) (fun _ _ _ _ _ => pts_nil) (fun _ _ _ _ _ => (pi_tupK (K := K) (pe_slice (slTK (K := K)) (pv 4) po_none (po_some pe_int)))) (fun _ _ _ _ _ => (pg_name (i := 5) sc_leaves_of.nd rfl (.inl rfl))) (fun _ _ _ _ _ => pts_nil) (fun _ _ _ _ _ => (pv 5))))
      (pss_one (ps_ret (pe_tupleOf (by rfl) T.tuple (pe_lc (own := [("place", 6)]) (g := gName 6)  rfl sc_leaves_of.nd (pi_tup (pv 1)) (blkOk_by (N := N_leaves_of) (sc := defScope s_leaves_of) (by decide +kernel)) (fun _ _ _ _ _ => pg_name (i := 6) sc_leaves_of.nd rfl (Or.inl rfl)) (fun _ _ _ _ _ => pts_one (pt_cmpR op_eq (show PE _ _ (tBM K "list" (rCountV K) _ _) from pe_bm PySem.F.plainAttrs_list PySem.F.slot_list_count PySem.F.type_list_count (mt_countV (K := K)) (pv 3) (pa_cons (pv 6) pa_nil)) pe_int (nomark _))) (fun _ _ _ _ _ => (pv 6)))))))), ?_⟩
    refine ⟨_, rfl, t, _, rfl, SqT.of ht, rfl, _, _, rfl, _, _, rfl, rfl, ?_⟩
    refine ⟨_, rfl, b, rfl, ⟨_, SqT.of hb⟩, fun D nD => ?_⟩
    refine walk_tup (K := K) (a := b) (xs := vs) (fun i H' => Same H H' ∧ H' D = some (.lst (((ends (ts.take i)).map S).map V.str))) ⟨same_new (Same.refl H) nD, upd_same⟩ (fun i H' _ hP => SqT.of (hP.1 _ _ hb)) (fun i v H' hi hP => ?_) (fun H' hP => ?_)
    · obtain ⟨SM, hD⟩ := hP
      obtain ⟨t3, p3, ht3, rfl, hp3⟩ := tie_at (DtAll.keep (TK.of SM) hA) hi
      have il := (List.getElem?_eq_some_iff.mp ht3).1
      have et : ts.take (i + 1) = ts.take i ++ [t3] := by rw [List.take_add_one, ht3]; rfl
      refine ⟨rfl, _, rfl, 2, rfl, p3, _, rfl, SqT.of hp3, (fun z => nomatch z.2), fun e ne => ?_⟩
      have De : D ≠ e := ne_of_none hD ne
      have he : (upd H' e (.tup [.str (S t3.1), .str (S t3.2.1)])) e = some (.tup [.str (S t3.1), .str (S t3.2.1)]) := upd_same
      have SM2 := same_new (o := .tup [.str (S t3.1), .str (S t3.2.1)]) SM ne
      have hD2 : (upd H' e (.tup [.str (S t3.1), .str (S t3.2.1)])) D = some (.lst (((ends (ts.take i)).map S).map V.str)) := by
        rw [upd_ne De]
        exact hD
      have ecut : cutV [V.str (S t3.1), .str (S t3.2.1), .int t3.2.2] none (some 2) = [.str (S t3.1), .str (S t3.2.1)] := rfl
      rw [ecut]
      generalize upd H' e (.tup [.str (S t3.1), .str (S t3.2.1)]) = H2 at he SM2 hD2
      have ll : (ends (ts.take i)).length ≤ 2 * i := by
        unfold ends
        rw [List.length_flatMap]
        have : ((ts.take i).map fun t => [t.1, t.2.1].length).sum = 2 * (ts.take i).length := by
          generalize ts.take i = ys
          induction ys with
          | nil => rfl
          | cons y r ih => simp at *; omega
        rw [this, List.length_take]
        omega
      refine ⟨e, rfl, ⟨_, SqT.of he⟩, ?_⟩
      refine walk_tup (K := K) (a := e) (xs := (([t3.1, t3.2.1] : List Nm).map S).map V.str) (fun j H' => H' e = some (.tup [.str (S t3.1), .str (S t3.2.1)]) ∧ Same H H' ∧ H' D = some (.lst (((ends (ts.take i) ++ ([t3.1, t3.2.1] : List Nm).take j).map S).map V.str))) ⟨he, SM2, by simpa using hD2⟩ (fun j H' _ hP => SqT.of hP.1) (fun j v H' hj hP => ?_) (fun H' hP => ?_)
      · obtain ⟨he', SM3, hD3⟩ := hP
        obtain ⟨x, hx, mx, rfl, ex⟩ := at_name hj
        have jl : j < 2 := (List.getElem?_eq_some_iff.mp hx).1
        refine ⟨rfl, _, rfl, _, hD3, by rw [List.length_map, List.length_map, List.length_append, List.length_take]; exact sz_lt (by omega), by rw [upd_ne De.symm]; exact he', same_put SM3 nD, ?_⟩
        rw [upd_same, ex, List.map_append, List.map_append, List.map_append, List.map_append, List.map_append, List.map_append]
        simp
      · obtain ⟨he', SM3, hD3⟩ := hP
        refine ⟨SM3, ?_⟩
        rw [et]
        unfold ends at *
        rw [List.flatMap_append]
        simpa using hD3
    obtain ⟨SM, hD⟩ := hP
    rw [List.take_of_length_le (by omega)] at hD
    have el : (ends ts).length ≤ 2000 := by
      unfold ends
      rw [List.length_flatMap]
      have : (ts.map fun t => [t.1, t.2.1].length).sum = 2 * ts.length := by
        clear hD SM
        generalize ts = ys
        induction ys with
        | nil => rfl
        | cons y r ih => simp at *; omega
      rw [this]
      omega
    refine ⟨_, rfl, a, rfl, ⟨_, (ha.same SM).sq⟩, fun G nG => ?_⟩
    have GD : D ≠ G := ne_of_none hD nG
    refine lc_tup (K := K) (a := a) (xs := (pl.map S).map V.str) (fun i H'' => Same H H'' ∧ H'' D = some (.lst (((ends ts).map S).map V.str)) ∧ H'' G = some (.lst (((leavesOf (pl.take i) ts).map S).map V.str))) ⟨same_new SM nG, by rw [upd_ne GD]; exact hD, upd_same⟩ (fun i H'' _ hP => (ha.same hP.1).sq) (fun i v H'' hi hP => ?_) (fun H'' hP => ?_)
    · obtain ⟨S2, hD2, hG⟩ := hP
      obtain ⟨x, hx, mx, rfl, ex⟩ := at_name hi
      have il := (List.getElem?_eq_some_iff.mp hx).1
      refine ⟨rfl, _, rfl, .inl ⟨rfl, _, SqL.of hD2⟩, _, rfl, D, _, _, rfl, rfl, SqL.of hD2, rfl, flat_strs _, rfl, _, rfl, ?_⟩
      rw [count_S, ends_deg]
      have gl : (leavesOf (pl.take i) ts).length ≤ 1000 := by
        unfold leavesOf
        have := List.length_filter_le (fun x => decide (deg ts x = 1)) (pl.take i)
        rw [List.length_take] at this
        omega
      by_cases c : deg ts x = 1
      · rw [c]
        refine iteT ⟨_, rfl, _, hG, by rw [List.length_map, List.length_map]; exact sz_lt (by omega), same_put S2 (SM.free nG), by rw [upd_ne GD]; exact hD2, ?_⟩
        rw [upd_same, ex]
        unfold leavesOf
        rw [List.filter_append, List.filter_cons_of_pos (by simp [c]), List.map_append, List.map_append]
        rfl
      · rw [decide_eq_false (fun z => c (by have := V.int.inj z; omega))]
        refine iteF ⟨S2, hD2, ?_⟩
        rw [ex]
        unfold leavesOf at *
        rw [List.filter_append, List.filter_cons_of_neg (by simp [c])]
        simpa using hG
    · obtain ⟨S2, hD2, hG⟩ := hP
      rw [List.length_map, List.length_map, List.take_length] at hG
      exact .inl ⟨G, _, rfl, SqL.of hG, fun q1 nq1 => q _ q1 (same_new S2 nq1) (S2.free nq1) upd_same⟩
end
end Far

namespace Far
open PySem PySem.Spec PyProof.Rows L2
open C8 (pss_cut tCut)
open SX (S)
/-! ### pairs as data -/
def pd (z : Nm × Nm) : PyData := .tuple [strD z.1, strD z.2]
theorem pd_eqv {x y : Nm × Nm} : PyData.eqv (pd x) (pd y) = true ↔ x = y := by
  obtain ⟨a, b⟩ := x
  obtain ⟨c, d⟩ := y
  show (S a == S c && (S b == S d && true)) = true ↔ _
  rw [Bool.and_true, Bool.and_eq_true, beq_iff_eq, beq_iff_eq]
  constructor
  · rintro ⟨h1, h2⟩
    rw [SX.S_inj h1, SX.S_inj h2]
  · intro h
    cases h
    exact ⟨rfl, rfl⟩
theorem pd_lay : ∀ {zs : List (Nm × Nm)}, (∀ z ∈ zs, NameOk z.1 ∧ NameOk z.2) → PyData.canLayAll0 (zs.map pd) = true ∧ PyData.depthAll (zs.map pd) ≤ 1
  | [], _ => ⟨rfl, Nat.zero_le _⟩
  | z :: r, h => by
    obtain ⟨h1, h2⟩ := h z (List.mem_cons_self ..)
    obtain ⟨i1, i2⟩ := pd_lay (zs := r) fun y hy => h y (List.mem_cons_of_mem _ hy)
    constructor
    · show ((PyData.strOk (S z.1) && (PyData.strOk (S z.2) && true)) && PyData.canLayAll0 (r.map pd)) = true
      rw [strOk_S h1, strOk_S h2, i1]
      rfl
    · show max (max 0 (max 0 0) + 1) (PyData.depthAll (r.map pd)) ≤ 1
      omega
theorem pd_shaped {zs : List (Nm × Nm)} (h : ∀ z ∈ zs, NameOk z.1 ∧ NameOk z.2) : SeqAt.shaped (.list (zs.map pd)) = true := by
  obtain ⟨i1, i2⟩ := pd_lay h
  show (PyData.canLayAll0 (zs.map pd) && decide (PyData.depthAll (zs.map pd) + 1 ≤ 64)) = true
  rw [i1, decide_eq_true (by omega)]
  rfl
theorem any_pd {zs : List (Nm × Nm)} {z : Nm × Nm} : ((zs.map pd).any fun y => PyData.eqv y (pd z)) = decide (z ∈ zs) := by
  by_cases h : z ∈ zs
  · rw [decide_eq_true h]
    exact List.any_eq_true.mpr ⟨pd z, List.mem_map_of_mem h, pd_eqv.mpr rfl⟩
  · rw [decide_eq_false h]
    refine Bool.eq_false_iff.mpr fun q => ?_
    obtain ⟨y, hy, e⟩ := List.any_eq_true.mp q
    obtain ⟨x, hx, rfl⟩ := List.mem_map.mp hy
    exact h (pd_eqv.mp e ▸ hx)
/-- x in t, t a tuple of data of any depth -/
def rInT (K : PySem.W.Frag) : R2 := fun x y H Q => ∃ d ds, Dp K H x d ∧ Dp K H y (.tuple ds) ∧ SeqAt.shaped d = true ∧ SeqAt.shaped (.tuple ds) = true ∧ Q (.bl (ds.any fun z => PyData.eqv z d)) H
theorem op_inT {X : Cx} (hu : X.A.units + 65 < cLine) : OpR X (compareOp .In) (rInT X.K) := by
  intro pins s σ H x y v u Q I rx ry h
  obtain ⟨d, ds, hd, he, sd, se, q⟩ := h
  obtain ⟨as, r1⟩ := Dp.reads I d x v hd rx
  obtain ⟨bs, r2⟩ := Dp.reads I (.tuple ds) y u he ry
  exact SeqAt.in_tuple_reads r2 r1 (SeqAt.canLay_of_shaped se) (SeqAt.canLay_of_shaped sd) (room_in_shaped sd hu) ⟨.bl _, H, I, rfl, q⟩
theorem pd_shapedT {zs : List (Nm × Nm)} (h : ∀ z ∈ zs, NameOk z.1 ∧ NameOk z.2) : SeqAt.shaped (.tuple (zs.map pd)) = true := by
  obtain ⟨i1, i2⟩ := pd_lay h
  show (PyData.canLayAll0 (zs.map pd) && decide (PyData.depthAll (zs.map pd) + 1 ≤ 64)) = true
  rw [i1, decide_eq_true (by omega)]
  rfl
theorem pd_one {z : Nm × Nm} (h : NameOk z.1 ∧ NameOk z.2) : SeqAt.shaped (pd z) = true := by
  show (((PyData.strOk (S z.1) && (PyData.strOk (S z.2) && true))) && decide (max 0 (max 0 0) + 1 ≤ 64)) = true
  rw [strOk_S h.1, strOk_S h.2]
  rfl
/-- what the written part says of NoJoin (at J) -/
structure NjC (K : PySem.W.Frag) (mg : Str → Option Value) (J : Addr) : Prop where
  ex : PySem.W.excIn K J [.type "ValueError", .type "Exception", .type "BaseException", .type "object"] "ValueError.__new__" = true
  gC : mg "NoJoin" = some (.ref J)
  kC : PySem.W.keepIn K (.ref J) = true
  sub : PySem.W.subIn K (.ref J) (.type "BaseException") = some true
  ty : PySem.W.typeIn K (.ref J) = some (.type "type")
section
variable {P : Program} {w : World} {K : PySem.W.Frag} {mg : Str → Option Value} {base : Heap} {C fI CF : Addr}
def spCheckX (C : Addr) : Sp := fun vs H Q E => ∃ (v : V) (n : Addr) (pl ns : List Nm) (ts : List Tie), vs = [v, .ref n] ∧ Dt H v (treeD pl ts) ∧ H n = some (.tup ((ns.map S).map V.str)) ∧ (∀ x ∈ ns, NameOk x) ∧ ((∀ x ∈ ns, x ∈ pl) → Q .non H) ∧
  ∀ (pre post : List Nm) (l : Nm), ns = pre ++ l :: post → (∀ x ∈ pre, x ∈ pl) → l ∉ pl → ∀ (H' : Hp) (d : Addr), Same H H' → H' d = some (.xd [("name", .str (S l))]) → E (.ref C) (some d) H'
theorem ok_check_placesX {f : Addr} {fd fdi : FuncData} (T : NpC K mg C fI CF) (Fi : FnOk P w K mg base (L2.CX P w) 1 fI fdi ["self", "name"] (spInit K C)) (bi : Binds K fdi ["self", "name"] []) (F : Fun K "check_places" "check_places" s_check_places f fd) : FnOk P w K mg base (L2.CX P w) 3 f fd ["tree", "names"] (spCheckX C) := by
  refine F.okX sc_check_places (fun vs H Q E h => ?_) (fun cdv A outer s H vs Q E hr h => ?_)
  · obtain ⟨v, n, pl, ns, ts, rfl, _⟩ := h
    rfl
  · obtain ⟨v, n, pl, ns, ts, rfl, hd, hn, ok, q, qE⟩ := h
    obtain ⟨t, a, b, rfl, ht, ha⟩ := pl0_of hd
    refine ⟨_, (pss_one (ps_for (passes_of rfl) rfl (pi_tup (pv 1)) (pg_name (i := 2) sc_check_places.nd rfl (.inl rfl))
        (pss_one (ps_if (pt_cmpR op_notIn_seq (pv 2) (pe_ix ix_tup (pv 0) pe_int (fun _ _ => rfl)) rfl)
          (pss_one (ps_raise rfl (takes_of rfl rfl rfl rfl) (pmk_oex T.oex T.iC T.tI Fi (hr.mono (by decide)) bi .nil passL (by rfl) T.gC (pa_cons (pv 2) pa_nil))))
          pss_nil)))), ?_⟩
    refine ⟨_, rfl, n, rfl, ⟨_, SqT.of hn⟩, for_tup (K := K) (a := n) (xs := (ns.map S).map V.str) (fun i σ' H' => (∃ x2, σ' = [some (.ref t), some (.ref n), x2]) ∧ H' = H ∧ ∀ x ∈ ns.take i, x ∈ pl) ⟨⟨_, rfl⟩, rfl, fun x hx => by cases hx⟩ (fun i σ' H' _ hP => hP.2.1 ▸ SqT.of hn) (fun i x σ' H' hi hP => ?_) (fun σ' H' hP => ?_)⟩
    · obtain ⟨⟨x2, rfl⟩, rfl, hin⟩ := hP
      have gl : ∃ l, ns[i]? = some l ∧ x = .str (S l) := by
        rw [List.getElem?_map, List.getElem?_map] at hi
        cases el : ns[i]? with
        | none => rw [el] at hi; cases hi
        | some l => rw [el] at hi; exact ⟨l, rfl, (Option.some.inj hi).symm⟩
      obtain ⟨l, el, rfl⟩ := gl
      refine ⟨_, rfl, _, rfl, t, _, 0, .ref a, rfl, rfl, SqT.of ht, atI_nat (j := 0) rfl, a, _, rfl, .inr ha.sq, rfl, flat_strs pl, _, rfl, ?_⟩
      rw [inV_strs]
      by_cases c : l ∈ pl
      · rw [decide_eq_true c]
        refine iteF ⟨⟨_, rfl⟩, rfl, fun y hy => ?_⟩
        rw [List.take_add_one, el] at hy
        rcases List.mem_append.mp hy with h | h
        · exact hin y h
        · have : y = l := by simpa using h
          rw [this]
          exact c
      · rw [decide_eq_false c]
        refine iteT ?_
        have en : ns = ns.take i ++ l :: ns.drop (i + 1) := by
          obtain ⟨hi', ei⟩ := List.getElem?_eq_some_iff.mp el
          rw [← ei, List.getElem_cons_drop hi', List.take_append_drop]
        have sl : (S l).length ≤ 1000 := by
          have := ok l (List.mem_of_getElem? el)
          rw [SX.S_len]
          exact Nat.le_trans this.2.1 (by decide)
        refine ⟨_, rfl, (by show 1 ≤ 1000; decide), fun e ne => ?_⟩
        refine ⟨e, S l, rfl, sl, upd_same, fun d nd de => ⟨rfl, d, _, upd_same, by rw [upd_ne de, upd_same], ?_, ?_⟩⟩
        · rw [upd_ne de] at nd
          exact nd
        · refine qE _ _ l en hin c _ d ?_ upd_same
          intro b o hb
          have ba : b ≠ e := ne_of_none hb ne
          have bd : b ≠ d := fun z => by
            rw [upd_ne de, ← z] at nd
            rw [hb] at nd
            cases nd
          rw [upd_ne bd, del_ne ba, upd_ne ba, upd_ne bd, upd_ne ba]
          exact hb
    · obtain ⟨⟨x2, rfl⟩, rfl, hin⟩ := hP
      rw [List.length_map, List.length_map, List.take_length] at hin
      exact q hin
end
theorem raise_end {K : PySem.W.Frag} {H : Hp} {C : Addr} {l : Nm} {E : XK} (okl : NameOk l) (qE : ∀ (H' : Hp) (d : Addr), Same H H' → H' d = some (.xd [("name", .str (S l))]) → E (.ref C) (some d) H') :
    ([V.str (S l)] : List V).length ≤ 1000 ∧ ∀ e, H e = none → spInit K C (.ref e :: ([V.str (S l)] ++ [])) (upd H e (exo e C none)) (fun v H2 => v = .non ∧ ∃ (d : Addr) (fs : List (Str × V)), H2 e = some (exo e C (some d)) ∧ H2 d = some (exd d fs) ∧ H d = none ∧ E (.ref C) (some d) (upd (del H2 e) d (.xd fs))) (fun _ _ _ => False) := by
  refine ⟨(by show 1 ≤ 1000; decide), fun e ne => ?_⟩
  have sl : (S l).length ≤ 1000 := by
    rw [SX.S_len]
    exact Nat.le_trans okl.2.1 (by decide)
  refine ⟨e, S l, rfl, sl, upd_same, fun d nd de => ⟨rfl, d, _, upd_same, by rw [upd_ne de, upd_same], ?_, ?_⟩⟩
  · rw [upd_ne de] at nd
    exact nd
  · refine qE _ d ?_ upd_same
    intro b o hb
    have ba : b ≠ e := ne_of_none hb ne
    have bd : b ≠ d := fun z => by
      rw [upd_ne de, ← z] at nd
      rw [hb] at nd
      cases nd
    rw [upd_ne bd, del_ne ba, upd_ne ba, upd_ne bd, upd_ne ba]
    exact hb
theorem names_dt {H : Hp} {q : Addr} {ls : List Nm} (h : TupAt H q ((ls.map S).map V.str)) (ne : ls ≠ []) : Dt H (.ref q) (.tuple (ls.map strD)) := h.elim (fun h => .tup h (dt_strs H ls)) fun ⟨o, d, h⟩ => .tupZ rfl ne d h
theorem names_dt0 {H : Hp} {q : Addr} {ls : List Nm} (h : H q = some (.tup ((ls.map S).map V.str))) : Dt H (.ref q) (.tuple (ls.map strD)) := .tup h (dt_strs H ls)
theorem cat_any {K : PySem.W.Frag} {H : Hp} {a b : Addr} {xs ys : List V} {Q : VK} (ha : TupAt H a xs) (hb : TupAt H b ys) (l : xs.length + ys.length ≤ sizeLine) (k : ∀ p H', Same H H' → TupAt H' p (xs ++ ys) → Q (.ref p) H') : rCatA K (.ref a) (.ref b) H Q :=
  ⟨a, b, xs, ys, rfl, rfl, ha.sq, hb.sq, l, fun e => k b H (Same.refl _) (by rw [e]; exact hb), fun _ e => k a H (Same.refl _) (by rw [e, List.append_nil]; exact ha), fun _ _ p n => k p _ (same_new (Same.refl _) n) (.inl upd_same)⟩
theorem cat_any0 {K : PySem.W.Frag} {H : Hp} {a b : Addr} {xs ys : List V} {Q : VK} (ha : H a = some (.tup xs)) (hb : H b = some (.tup ys)) (l : xs.length + ys.length ≤ sizeLine) (k : ∀ p H', Same H H' → H' p = some (.tup (xs ++ ys)) → Q (.ref p) H') : rCatA K (.ref a) (.ref b) H Q :=
  ⟨a, b, xs, ys, rfl, rfl, SqT.of ha, SqT.of hb, l, fun e => k b H (Same.refl _) (by rw [e]; exact hb), fun _ e => k a H (Same.refl _) (by rw [e, List.append_nil]; exact ha), fun _ _ p n => k p _ (same_new (Same.refl _) n) upd_same⟩
abbrev s_part_of : Stmt := topS 22
abbrev N_part_of : List Str := ["tree", "places", "kept", "place", "tie"]
theorem sc_part_of : FnScope N_part_of ["tree", "places"] (defScope s_part_of) := ⟨rfl, rfl, rfl, by decide +kernel, rfl, by decide +kernel, by decide +kernel⟩
abbrev s_check_length : Stmt := topS 25
abbrev N_check_length : List Str := ["length"]
theorem sc_check_length : FnScope N_check_length ["length"] (defScope s_check_length) := ⟨rfl, rfl, rfl, by decide +kernel, rfl, by decide +kernel, by decide +kernel⟩
abbrev s_number_of_tie : Stmt := topS 26
abbrev N_number_of_tie : List Str := ["ties", "one", "other", "number", "tie"]
theorem sc_number_of_tie : FnScope N_number_of_tie ["ties", "one", "other"] (defScope s_number_of_tie) := ⟨rfl, rfl, rfl, by decide +kernel, rfl, by decide +kernel, by decide +kernel⟩
section
variable {P : Program} {w : World} {K : PySem.W.Frag} {mg : Str → Option Value} {base : Heap} {J : Addr}
def keptP (pl ps : List Nm) : List Nm := pl.filter fun x => decide (x ∈ ps)
def keptT (kl : List Nm) (ts : List Tie) : List Tie := ts.filter fun t => decide (t.1 ∈ kl) && decide (t.2.1 ∈ kl)
def spPart : Sp := fun vs H Q _ => ∃ (v : V) (p : Addr) (pl ps : List Nm) (ts : List Tie), vs = [v, .ref p] ∧ Dt H v (treeD pl ts) ∧ H p = some (.lst ((ps.map S).map V.str)) ∧ pl.length ≤ 1000 ∧ ts.length ≤ 1000 ∧ keptP pl ps ≠ [] ∧ ∀ (H' : Hp) (r : Addr), Same H H' → H r = none → Dt H' (.ref r) (treeD (keptP pl ps) (keptT (keptP pl ps) ts)) → PlZ H' (.ref r) (keptP pl ps) → Q (.ref r) H'
theorem ok_part_of {f : Addr} {fd : FuncData} (F : Fun K "part_of" "part_of" s_part_of f fd) (T : TxtK0 mg) : FnOk P w K mg base CX0 1 f fd ["tree", "places"] spPart := by
  refine F.ok sc_part_of (fun vs H Q E h => ?_) (fun cdv A outer s H vs Q E hr h => ?_)
  · obtain ⟨v, p, pl, ps, ts, rfl, _⟩ := h
    rfl
  · obtain ⟨v, p, pl, ps, ts, rfl, hd, hp, l1, l2, kne, q⟩ := h
    obtain ⟨t, a, b, vs, rfl, ht, ha, hb, hA⟩ := dt_tree hd
    have vl : vs.length = ts.length := by
      have := DtAll.len hA
      rwa [List.length_map] at this
    refine ⟨_, (pss_cons (ps_set (i := 2) sc_part_of.nd rfl (.inr rfl) (pe_tupleZ (by rfl) T.tuple (pe_lc (own := [("place", 3)]) (g := gName 3)  rfl sc_part_of.nd (pi_tup (pe_ix ix_tup (pv 0) pe_int (fun _ _ => rfl))) (blkOk_by (N := N_part_of) (sc := defScope s_part_of) (by decide +kernel)) (fun _ _ _ _ _ => pg_name (i := 3) sc_part_of.nd rfl (Or.inl rfl)) (fun _ _ _ _ _ => pts_one (pt_cmpR (inK (K := K)) (pv 3) (pv 1) rfl)) (fun _ _ _ _ _ => (pv 3)))))
      (pss_one (ps_ret (pe_tup (pa_cons (pv 2) (pa_cons (pe_tupleOf (by rfl) T.tuple (pe_lc (own := [("tie", 4)]) (g := gName 4)  rfl sc_part_of.nd (pi_tup (pe_ix ix_tup (pv 0) pe_int (fun _ _ => rfl))) (blkOk_by (N := N_part_of) (sc := defScope s_part_of) (by decide +kernel)) (fun _ _ _ _ _ => pg_name (i := 4) sc_part_of.nd rfl (Or.inl rfl)) (fun _ _ _ _ _ => pts_one (PW.pt (pw_and (pt_cmpR (inK (K := K)) (pe_ix (ixt (K := K)) (pv 4) pe_int (fun _ _ => rfl)) (pv 2) rfl) (pw_and1 (pt_cmpR (inK (K := K)) (pe_ix (ixt (K := K)) (pv 4) pe_int (fun _ _ => rfl)) (pv 2) rfl))))) (fun _ _ _ _ _ => (pv 4)))) pa_nil)))))), ?_⟩
    refine ⟨_, rfl, t, _, 0, .ref a, rfl, rfl, SqT.of ht, atI_nat (j := 0) rfl, a, rfl, ⟨_, ha.sq⟩, fun D nD => ?_⟩
    refine lc_tup (K := K) (a := a) (xs := (pl.map S).map V.str) (fun i H' => Same H H' ∧ H' D = some (.lst (((keptP (pl.take i) ps).map S).map V.str))) ⟨same_new (Same.refl H) nD, upd_same⟩ (fun i H' _ hP => (ha.same hP.1).sq) (fun i v H' hi hP => ?_) (fun H' hP => ?_)
    · obtain ⟨SM, hD⟩ := hP
      obtain ⟨x, hx, mx, rfl, ex⟩ := at_name hi
      have il := (List.getElem?_eq_some_iff.mp hx).1
      refine ⟨rfl, _, rfl, _, rfl, p, _, rfl, .inl (SqL.of (SM _ _ hp)), rfl, flat_strs ps, _, rfl, ?_⟩
      rw [inV_strs]
      have gl : (keptP (pl.take i) ps).length ≤ 1000 := by
        unfold keptP
        have := List.length_filter_le (fun x => decide (x ∈ ps)) (pl.take i)
        rw [List.length_take] at this
        omega
      by_cases c : x ∈ ps
      · rw [decide_eq_true c]
        refine iteT ⟨_, rfl, _, hD, by rw [List.length_map, List.length_map]; exact sz_lt (by omega), same_put SM nD, ?_⟩
        rw [upd_same, ex]
        unfold keptP
        rw [List.filter_append, List.filter_cons_of_pos (by simp [c]), List.map_append, List.map_append]
        rfl
      · rw [decide_eq_false c]
        refine iteF ⟨SM, ?_⟩
        rw [ex]
        unfold keptP at *
        rw [List.filter_append, List.filter_cons_of_neg (by simp [c])]
        simpa using hD
    obtain ⟨SM, hD⟩ := hP
    rw [List.length_map, List.length_map, List.take_length] at hD
    refine ⟨D, _, rfl, SqL.of hD, fun k o nk od => ?_⟩
    have SM2 := same_new (o := .frz o (.tup (((keptP pl ps).map S).map V.str))) SM nk
    have hk : (upd H' k (.frz o (.tup (((keptP pl ps).map S).map V.str)))) k = some (.frz o (.tup (((keptP pl ps).map S).map V.str))) := upd_same
    generalize upd H' k (.frz o (.tup (((keptP pl ps).map S).map V.str))) = H2 at SM2 hk
    refine ⟨_, rfl, _, rfl, t, _, 1, .ref b, rfl, rfl, SqT.of (SM2 _ _ ht), atI_nat (j := 1) rfl, b, rfl, ⟨_, SqT.of (SM2 _ _ hb)⟩, fun G nG => ?_⟩
    refine lc_tup (K := K) (a := b) (xs := vs) (fun i H' => Same H H' ∧ H' k = some (.frz o (.tup (((keptP pl ps).map S).map V.str))) ∧ ∃ ws, H' G = some (.lst ws) ∧ DtAll H' ws ((keptT (keptP pl ps) (ts.take i)).map tieD)) ⟨same_new SM2 nG, by rw [upd_ne (ne_of_none hk nG)]; exact hk, [], upd_same, .nil⟩ (fun i H' _ hP => SqT.of (hP.1 _ _ hb)) (fun i v H' hi hP => ?_) (fun H' hP => ?_)
    · obtain ⟨S3, hk3, ws, hG, hW⟩ := hP
      obtain ⟨t3, p3, ht3, rfl, hp3⟩ := tie_at (DtAll.keep (TK.of S3) hA) hi
      have il := (List.getElem?_eq_some_iff.mp ht3).1
      have et : ts.take (i + 1) = ts.take i ++ [t3] := by rw [List.take_add_one, ht3]; rfl
      have wl : ws.length ≤ 1000 := by
        have := DtAll.len hW
        rw [this, List.length_map]
        unfold keptT
        have := List.length_filter_le (fun t => decide (t.1 ∈ keptP pl ps) && decide (t.2.1 ∈ keptP pl ps)) (ts.take i)
        rw [List.length_take] at this
        omega
      have no : ∀ z : (decide (t3.1 ∈ keptP pl ps) && decide (t3.2.1 ∈ keptP pl ps)) = false, keptT (keptP pl ps) (ts.take (i + 1)) = keptT (keptP pl ps) (ts.take i) := fun z => by
        rw [et]
        unfold keptT
        rw [List.filter_append, List.filter_cons_of_neg (by rw [z]; decide)]
        simp
      refine ⟨rfl, _, rfl, p3, _, 0, _, rfl, rfl, SqT.of hp3, atI_nat (j := 0) rfl, _, rfl, k, _, rfl, .inr (TupAt.sq (.inr ⟨o, od, hk3⟩)), rfl, flat_strs _, _, rfl, ?_⟩
      rw [inV_strs]
      by_cases c1 : t3.1 ∈ keptP pl ps
      · rw [decide_eq_true c1]
        refine iteT ?_
        refine ⟨_, rfl, p3, _, 1, _, rfl, rfl, SqT.of hp3, atI_nat (j := 1) rfl, _, rfl, k, _, rfl, .inr (TupAt.sq (.inr ⟨o, od, hk3⟩)), rfl, flat_strs _, _, rfl, ?_⟩
        rw [inV_strs]
        by_cases c2 : t3.2.1 ∈ keptP pl ps
        · rw [decide_eq_true c2]
          refine iteT ⟨_, rfl, _, hG, sz_lt (by omega), same_put S3 (SM2.free nG), by rw [upd_ne (ne_of hk3 hG (by intro z; cases z))]; exact hk3, ws ++ [.ref p3], upd_same, ?_⟩
          have tk := TK.mut (o := .lst (ws ++ [.ref p3])) hG
          rw [et]
          unfold keptT at *
          rw [List.filter_append, List.filter_cons_of_pos (by simp [c1, c2]), List.map_append]
          exact DtAll.app (DtAll.keep tk hW) (.cons (.tup (tk.tup _ _ hp3) (.cons (.str _) (.cons (.str _) (.cons (.int _) .nil)))) .nil)
        · rw [decide_eq_false c2]
          refine iteF ⟨S3, hk3, ws, hG, ?_⟩
          rw [no (by simp [c2])]
          exact hW
      · rw [decide_eq_false c1]
        refine iteF (iteF ⟨S3, hk3, ws, hG, ?_⟩)
        rw [no (by simp [c1])]
        exact hW
    · obtain ⟨S3, hk3, ws, hG, hW⟩ := hP
      rw [List.take_of_length_le (by omega)] at hW
      refine .inl ⟨G, _, rfl, SqL.of hG, fun q2 nq2 => ⟨(by show 2 ≤ sizeLine; decide), fun r nr => ?_⟩⟩
      have tk2 : TK H' (upd (upd H' q2 (.tup ws)) r (.tup [.ref k, .ref q2])) := (TK.new nq2).trans (TK.new nr)
      have tk3 : TK (upd H' q2 (.tup ws)) (upd (upd H' q2 (.tup ws)) r (.tup [.ref k, .ref q2])) := TK.new nr
      have S4 := same_new (o := .tup ws) S3 nq2
      exact q _ r (same_new S4 nr) (S4.free nr) (.tup upd_same (.cons (.tupZ rfl kne od (tk2.frz _ _ _ hk3)) (.cons (.tup (tk3.tup _ _ upd_same) (DtAll.keep tk2 hW)) .nil))) ⟨r, k, q2, o, rfl, upd_same, od, tk2.frz _ _ _ hk3⟩
theorem ofS_len (s : String) : (Str.ofString s).length = s.toList.length := by
  rw [PySem.Str.ofString_eq_toList]
  simp [Str.length]
theorem int_len {k : Int} (h : -10000000 ≤ k) (h1 : k < 1) : (Str.ofString (toString k)).length ≤ 100 := by
  cases k with
  | ofNat n =>
    have e : n = 0 := by have : (Int.ofNat n) = (n : Int) := rfl; omega
    subst e
    decide +kernel
  | negSucc m =>
    have e : toString (Int.negSucc m) = "-" ++ toString ((m + 1 : Nat) : Int) := rfl
    have l := toString_length_le (v := ((m + 1 : Nat) : Int)) (by omega) (k := 10) (by decide) (by have : Int.negSucc m = -((m : Int) + 1) := rfl; omega)
    rw [ofS_len] at l
    rw [e, ofS_len, String.toList_append, List.length_append]
    have : ("-" : String).toList.length = 1 := by decide
    omega
def spCkLen (J : Addr) : Sp := fun vs H Q E => ∃ k : Int, vs = [.int k] ∧ (-10000000 ≤ k ∧ k ≤ 10000000) ∧ (1 ≤ k → Q .non H) ∧ (k < 1 → ∀ H' : Hp, Same H H' → E (.ref J) none H')
theorem ok_check_length {f : Addr} {fd : FuncData} (T : NjC K mg J) (F : Fun K "_check_length" "_check_length" s_check_length f fd) : FnOk P w K mg base (L2.CX P w) 1 f fd ["length"] (spCkLen J) := by
  refine F.okX sc_check_length (fun vs H Q E h => ?_) (fun cdv A outer s H vs Q E hr h => ?_)
  · obtain ⟨k, rfl, _⟩ := h
    rfl
  · obtain ⟨k, rfl, ⟨k0, k1⟩, q, qE⟩ := h
    refine ⟨_, (pss_one (ps_if (pt_cmpR op_lt (pv 0) pe_int (nomark _))
        (pss_one (ps_raise rfl (takes_of rfl rfl rfl rfl) (SkE.pmk_own1 PySem.F.excBase_ValueError T.ex T.gC T.kC (raises_own T.sub T.ty) (by rfl) (pe_joined (.cons (pe_fmt (pv 0)) (.cons pe_str .nil))))))
        pss_nil)), ?_⟩
    refine ⟨_, rfl, _, _, rfl, rfl, _, rfl, ?_⟩
    by_cases c : k < 1
    · rw [decide_eq_true c]
      refine iteT ?_
      have lb : k.natAbs.log2 < 1920 := Nat.lt_trans (PySem.Flt.log2_lt_of (k := 24) (by decide) (by
        have : (2 : Nat) ^ 24 = 16777216 := by decide
        omega)) (by decide)
      have l1 := int_len k0 c
      refine ⟨_, rfl, .inr ⟨k, rfl, lb, ?_⟩⟩
      have l2 : (Str.empty ++ Str.ofString (toString k)).length ≤ 100 := by
        rw [PySem.Str.length_append]
        show 0 + _ ≤ 100
        omega
      refine ⟨_, rfl, Nat.le_trans l2 (by decide), _, rfl, ?_, ?_⟩
      · rw [PySem.Str.length_append]
        have : (Str.ofString " is no length of a tie").length = 22 := by decide +kernel
        exact Nat.le_trans (Nat.add_le_add l2 (Nat.le_of_eq this)) (by decide)
      · exact qE c _ (Same.refl _)
    · rw [decide_eq_false c]
      exact iteF (q (by omega))
/-- the number of the tie of the two, or none -/
def isTie (u x : Nm) (t : Tie) : Bool := decide ((t.1, t.2.1) ∈ [(u, x), (x, u)])
def optV (o : Option Nat) : V := match o with | some i => .int (i : Nat) | none => .non
def spNum : Sp := fun vs H Q _ => ∃ (b : Addr) (ws : List V) (ts : List Tie) (u x : Nm), vs = [.ref b, .str (S u), .str (S x)] ∧ H b = some (.tup ws) ∧ DtAll H ws (ts.map tieD) ∧ (∀ e ∈ ts, NameOk e.1 ∧ NameOk e.2.1) ∧ NameOk u ∧ NameOk x ∧ ∀ H' : Hp, Same H H' → Q (optV (ts.findIdx? (isTie u x))) H'
theorem ok_number {f : Addr} {fd : FuncData} (F : Fun K "_number_of_tie" "_number_of_tie" s_number_of_tie f fd) (T : TxtK0 mg) : FnOk P w K mg base CX0 3 f fd ["ties", "one", "other"] spNum := by
  refine F.ok sc_number_of_tie (fun vs H Q E h => ?_) (fun cdv A outer s H vs Q E hr h => ?_)
  · obtain ⟨b, ws, ts, u, x, rfl, _⟩ := h
    rfl
  · obtain ⟨b, ws, ts, u, x, rfl, hb, hA, ok, oku, okx, q⟩ := h
    have wl : ws.length = ts.length := by
      have := DtAll.len hA
      rwa [List.length_map] at this
    refine ⟨_, (pss_cut (ps_for PassesOwn.never rfl (pi_enumT (by rfl) T.enumerate (pa_cons (pv 0) pa_nil)) (pg_tup rfl (pgs_cons (pg_name (i := 3) sc_number_of_tie.nd rfl (.inl rfl)) (pgs_cons (pg_name (i := 4) sc_number_of_tie.nd rfl (.inl rfl)) pgs_nil)))
        (pss_one (ps_if (pt_cmpR (op_inT (hd65 hr (by decide))) (pe_slice sl_tup (pv 4) po_none (po_some pe_int)) (pe_tup (pa_cons (pe_tup (pa_cons (pv 1) (pa_cons (pv 2) pa_nil))) (pa_cons (pe_tup (pa_cons (pv 2) (pa_cons (pv 1) pa_nil))) pa_nil))) rfl)
          (pss_one (ps_ret (pv 3)))
          pss_nil)))
      (pss_one (ps_ret pe_non))), ?_⟩
    refine ⟨fun σ' H' => (∃ x3 x4, σ' = [some (.ref b), some (.str (S u)), some (.str (S x)), x3, x4]) ∧ Same H H' ∧ ∀ e ∈ ts, isTie u x e = false, ?_, fun σ' H' hM => ?_⟩
    · refine ⟨_, rfl, b, _, rfl, SqT.of hb, ?_⟩
      refine for_enumT (K := K) (a := b) (xs := ws) (fun i σ' H' => (∃ x3 x4, σ' = [some (.ref b), some (.str (S u)), some (.str (S x)), x3, x4]) ∧ Same H H' ∧ ∀ e ∈ ts.take i, isTie u x e = false) ⟨⟨_, _, rfl⟩, Same.refl _, fun e he => by cases he⟩ (fun i σ' H' hP => SqT.of (hP.2.1 _ _ hb)) (fun i v σ' H' g hi hP ng => ?_) (fun σ' H' hP => ?_)
      · obtain ⟨⟨x3, x4, rfl⟩, SM, no⟩ := hP
        obtain ⟨t3, p3, ht3, rfl, hp3⟩ := tie_at (DtAll.keep (TK.of SM) hA) hi
        have hg : (upd H' g (.tup [.int (i : Nat), .ref p3])) g = some (.tup [.int (i : Nat), .ref p3]) := upd_same
        have S3 := same_new (o := .tup [.int (i : Nat), .ref p3]) SM ng
        have hp4 : (upd H' g (.tup [.int (i : Nat), .ref p3])) p3 = some (.tup [.str (S t3.1), .str (S t3.2.1), .int t3.2.2]) := by
          rw [upd_ne (ne_of_none hp3 ng)]
          exact hp3
        generalize upd H' g (.tup [.int (i : Nat), .ref p3]) = H3 at hg S3 hp4
        refine ⟨g, _, rfl, SqT.of hg, rfl, _, _, rfl, _, _, rfl, rfl, ?_⟩
        refine ⟨_, rfl, 2, rfl, p3, _, rfl, SqT.of hp4, (fun z => nomatch z.2), fun e ne => ?_⟩
        have ecut : cutV [V.str (S t3.1), .str (S t3.2.1), .int t3.2.2] none (some 2) = [.str (S t3.1), .str (S t3.2.1)] := rfl
        rw [ecut]
        have S4 := same_new (o := .tup [.str (S t3.1), .str (S t3.2.1)]) S3 ne
        refine ⟨_, rfl, _, rfl, (by show 2 ≤ sizeLine; decide), fun e1 ne1 => ?_⟩
        have S5 := same_new (o := .tup [.str (S u), .str (S x)]) S4 ne1
        refine ⟨_, rfl, _, rfl, (by show 2 ≤ sizeLine; decide), fun e2 ne2 => ?_⟩
        have S6 := same_new (o := .tup [.str (S x), .str (S u)]) S5 ne2
        refine ⟨(by show 2 ≤ sizeLine; decide), fun e3 ne3 => ?_⟩
        have S7 := same_new (o := .tup [.ref e1, .ref e2]) S6 ne3
        have k3 := TK.new (o := .tup [.ref e1, .ref e2]) ne3
        have k2 := (TK.new (o := .tup [.str (S x), .str (S u)]) ne2).trans k3
        have k1 := (TK.new (o := .tup [.str (S u), .str (S x)]) ne1).trans k2
        have ot := ok t3 (List.mem_of_getElem? ht3)
        have he := k1.tup _ _ (upd_same (H := H3) (a := e) (o := .tup [.str (S t3.1), .str (S t3.2.1)]))
        refine ⟨pd (t3.1, t3.2.1), [(u, x), (x, u)].map pd, .tup (SqT.of he) (.cons (.str _) (.cons (.str _) .nil)), .tup (SqT.of upd_same) (.cons (.tup (SqT.of (k2.tup _ _ upd_same)) (.cons (.str _) (.cons (.str _) .nil))) (.cons (.tup (SqT.of (k3.tup _ _ upd_same)) (.cons (.str _) (.cons (.str _) .nil))) .nil)), pd_one ot, pd_shapedT (fun z hz => by
          simp only [List.mem_cons, List.not_mem_nil, or_false] at hz
          rcases hz with e | e <;> subst e
          · exact ⟨oku, okx⟩
          · exact ⟨okx, oku⟩), ?_⟩
        rw [any_pd]
        refine ⟨_, rfl, ?_⟩
        by_cases c : (t3.1, t3.2.1) ∈ [(u, x), (x, u)]
        · rw [decide_eq_true c]
          refine iteT ⟨_, rfl, ?_⟩
          have ef : ts.findIdx? (isTie u x) = some i := by
            rw [List.findIdx?_eq_some_iff_getElem]
            refine ⟨(List.getElem?_eq_some_iff.mp ht3).1, ?_, fun j hj => ?_⟩
            · rw [(List.getElem?_eq_some_iff.mp ht3).2]
              exact decide_eq_true c
            · have jt : j < ts.length := by have := (List.getElem?_eq_some_iff.mp ht3).1; omega
              have := no ts[j] (List.mem_take_iff_getElem.mpr ⟨j, by omega, rfl⟩)
              rw [this]
              decide
          have := q _ S7
          rw [ef] at this
          exact this
        · rw [decide_eq_false c]
          refine iteF ⟨⟨_, _, rfl⟩, S7, fun e he => ?_⟩
          rw [List.take_add_one, ht3] at he
          rcases List.mem_append.mp he with z | z
          · exact no e z
          · have : e = t3 := by simpa using z
            rw [this]
            exact decide_eq_false c
      · obtain ⟨⟨x3, x4, rfl⟩, SM, no⟩ := hP
        rw [List.take_of_length_le (by omega)] at no
        exact ⟨⟨_, _, rfl⟩, SM, no⟩
    · obtain ⟨⟨x3, x4, rfl⟩, SM, no⟩ := hM
      have ef : ts.findIdx? (isTie u x) = none := List.findIdx?_eq_none_iff.mpr no
      have := q _ SM
      rw [ef] at this
      exact this
end
end Far

namespace Far
open PySem PySem.Spec PyProof.Rows L2
open C8 (pss_cut tCut)
open SX (S)
theorem DtAll.cut {H : Hp} : ∀ (k : Nat) {vs : List V} {ds : List PyData}, DtAll H vs ds → DtAll H (vs.take k) (ds.take k) ∧ DtAll H (vs.drop k) (ds.drop k)
  | 0, _, _, h => ⟨.nil, h⟩
  | k + 1, _, _, .nil => ⟨.nil, .nil⟩
  | k + 1, _, _, .cons a t => ⟨.cons a (DtAll.cut k t).1, (DtAll.cut k t).2⟩
/-- what the written part says of the class KeptTree, at C -/
structure KtC (K : PySem.W.Frag) (C : Addr) : Prop where
  cl : Cls K C
  nT : NoAttr K C "_tree"
def KeptAt (C : Addr) (H : Hp) (p : Addr) (pl : List Nm) (ts : List Tie) : Prop := ∃ (dx : Addr) (v : V), H p = some (.ins C dx [("_tree", v)]) ∧ Dt H v (treeD pl ts)
theorem KeptAt.mv {C : Addr} {H H' : Hp} {p : Addr} {pl : List Nm} {ts : List Tie} (h : KeptAt C H p pl ts) (s : ∀ dx v, H p = some (.ins C dx [("_tree", v)]) → H' p = some (.ins C dx [("_tree", v)])) (t : TK H H') : KeptAt C H' p pl ts := by
  obtain ⟨dx, v, h1, h2⟩ := h
  exact ⟨dx, v, s _ _ h1, Dt.keep t h2⟩
theorem KeptAt.same {C : Addr} {H H' : Hp} {p : Addr} {pl : List Nm} {ts : List Tie} (h : KeptAt C H p pl ts) (s : Same H H') : KeptAt C H' p pl ts := h.mv (fun _ _ z => s _ _ z) (TK.of s)
def KeptZ (C : Addr) (H : Hp) (p : Addr) (pl : List Nm) (ts : List Tie) : Prop := ∃ (dx : Addr) (v : V), H p = some (.ins C dx [("_tree", v)]) ∧ Dt H v (treeD pl ts) ∧ PlZ H v pl
theorem KeptZ.at {C : Addr} {H : Hp} {p : Addr} {pl : List Nm} {ts : List Tie} (h : KeptZ C H p pl ts) : KeptAt C H p pl ts := by
  obtain ⟨dx, v, h1, h2, _⟩ := h
  exact ⟨dx, v, h1, h2⟩
theorem KeptZ.mv {C : Addr} {H H' : Hp} {p : Addr} {pl : List Nm} {ts : List Tie} (h : KeptZ C H p pl ts) (s : ∀ dx v, H p = some (.ins C dx [("_tree", v)]) → H' p = some (.ins C dx [("_tree", v)])) (t : TK H H') : KeptZ C H' p pl ts := by
  obtain ⟨dx, v, h1, h2, h3⟩ := h
  exact ⟨dx, v, s _ _ h1, Dt.keep t h2, h3.keep t⟩
theorem KeptZ.same {C : Addr} {H H' : Hp} {p : Addr} {pl : List Nm} {ts : List Tie} (h : KeptZ C H p pl ts) (s : Same H H') : KeptZ C H' p pl ts := h.mv (fun _ _ z => s _ _ z) (TK.of s)
theorem cat_anyZ {K : PySem.W.Frag} {H : Hp} {a b : Addr} {xs ys : List V} {Q : VK} (ha : TupAt H a xs) (hb : TupAt H b ys) (nx : xs ≠ []) (ny : ys ≠ []) (l : xs.length + ys.length ≤ sizeLine) (k : ∀ (p : Addr) (o : Obj) (H' : Hp), Same H H' → o.dict = none → H' p = some (.frz o (.tup (xs ++ ys))) → Q (.ref p) H') : rCatZ K (.ref a) (.ref b) H Q :=
  ⟨a, b, xs, ys, rfl, rfl, ha.sq, hb.sq, nx, ny, l, fun p o n d => k p o _ (same_new (Same.refl _) n) d upd_same⟩
theorem SmX.of {d : Addr} {H H' : Hp} (s : Same H H') : SmX d H H' := fun b o _ h => s b o h
theorem putF_one {f : Str} {v w : V} : putF f v [(f, w)] = [(f, v)] := by
  show (if f = f then [(f, v)] else _) = _
  rw [if_pos rfl]
theorem TK.ins {H : Hp} {p C dx : Addr} {fs : List (Str × V)} {o : HO} (h : H p = some (.ins C dx fs)) : TK H (upd H p o) :=
  ⟨fun b ys hb => by rw [upd_ne (ne_of hb h (by intro z; cases z))]; exact hb, fun b u ys hb => by rw [upd_ne (ne_of hb h (by intro z; cases z))]; exact hb⟩
theorem TupAt.ins {H : Hp} {p C dx a : Addr} {fs : List (Str × V)} {xs : List V} (h : H p = some (.ins C dx fs)) (ha : TupAt H a xs) : a ≠ p := ha.elim (fun z => ne_of z h (by intro z; cases z)) fun ⟨_, _, z⟩ => ne_of z h (by intro z; cases z)
abbrev s_KeptTree_init : Stmt := inClass (topS 24) 0
abbrev N_KeptTree_init : List Str := ["self", "tree"]
theorem sc_KeptTree_init : FnScope N_KeptTree_init ["self", "tree"] (defScope s_KeptTree_init) := ⟨rfl, rfl, rfl, by decide +kernel, rfl, by decide +kernel, by decide +kernel⟩
abbrev s_KeptTree_put_leaf : Stmt := inClass (topS 24) 1
abbrev N_KeptTree_put_leaf : List Str := ["self", "name", "place", "length", "places", "ties"]
theorem sc_KeptTree_put_leaf : FnScope N_KeptTree_put_leaf ["self", "name", "place", "length"] (defScope s_KeptTree_put_leaf) := ⟨rfl, rfl, rfl, by decide +kernel, rfl, by decide +kernel, by decide +kernel⟩
abbrev s_KeptTree_take_leaf : Stmt := inClass (topS 24) 2
abbrev N_KeptTree_take_leaf : List Str := ["self", "name", "place"]
theorem sc_KeptTree_take_leaf : FnScope N_KeptTree_take_leaf ["self", "name"] (defScope s_KeptTree_take_leaf) := ⟨rfl, rfl, rfl, by decide +kernel, rfl, by decide +kernel, by decide +kernel⟩
abbrev s_KeptTree_lengthen : Stmt := inClass (topS 24) 3
abbrev N_KeptTree_lengthen : List Str := ["self", "one", "other", "length", "places", "ties", "number", "first", "second", "_"]
theorem sc_KeptTree_lengthen : FnScope N_KeptTree_lengthen ["self", "one", "other", "length"] (defScope s_KeptTree_lengthen) := ⟨rfl, rfl, rfl, by decide +kernel, rfl, by decide +kernel, by decide +kernel⟩
section
variable {P : Program} {w : World} {K : PySem.W.Frag} {mg : Str → Option Value} {base : Heap} {C J aN : Addr}
def spKInit (C : Addr) : Sp := fun vs H Q _ => ∃ (p dx : Addr) (v : V), vs = [.ref p, v] ∧ H p = some (.ins C dx []) ∧ Q .non (upd H p (.ins C dx [("_tree", v)]))
theorem ok_kinit {f : Addr} {fd : FuncData} (T : KtC K C) (F : Fun K "__init__" "KeptTree.__init__" s_KeptTree_init f fd) : FnOk P w K mg base CX0 1 f fd ["self", "tree"] (spKInit C) := by
  refine F.ok sc_KeptTree_init (fun vs H Q E h => ?_) (fun cdv A outer s H vs Q E hr h => ?_)
  · obtain ⟨p, dx, v, rfl, _⟩ := h
    rfl
  · obtain ⟨p, dx, v, rfl, hp, q⟩ := h
    refine ⟨_, (pss_one (ps_fld (pv 0) (pv 1) rfl)), ?_⟩
    exact ⟨_, rfl, _, rfl, p, C, dx, [], rfl, hp, T.cl, T.nT, by decide, q⟩
def spPut (C J aN : Addr) : Sp := fun vs H Q E => ∃ (p : Addr) (pl : List Nm) (ts : List Tie) (nm x : Nm) (k : Int), vs = [.ref p, .str (S nm), .str (S x), .int k] ∧ KeptAt C H p pl ts ∧ NameOk nm ∧ NameOk x ∧ pl ≠ [] ∧ pl.length ≤ 900 ∧ ts.length ≤ 900 ∧ (-10000000 ≤ k ∧ k ≤ 10000000) ∧
  (x ∈ pl → nm ∉ pl → 1 ≤ k → ∀ H' : Hp, KeptZ C H' p (pl ++ [nm]) (ts ++ [(x, nm, k)]) → SmX p H H' → Q .non H') ∧
  (x ∉ pl → ∀ (H' : Hp) (d : Addr), Same H H' → H' d = some (.xd [("name", .str (S x))]) → E (.ref aN) (some d) H') ∧
  (x ∈ pl → (nm ∈ pl ∨ k < 1) → ∀ H' : Hp, Same H H' → E (.ref J) none H')
theorem ok_put {f : Addr} {fd : FuncData} (T : KtC K C) (F : Fun K "put_leaf" "KeptTree.put_leaf" s_KeptTree_put_leaf f fd) (NJ : NjC K mg J) (Ccheck_places : CalX P w K mg base 3 "check_places" (spCheckX aN)) (C_check_length : CalX P w K mg base 1 "_check_length" (spCkLen J)) : FnOk P w K mg base (L2.CX P w) 4 f fd ["self", "name", "place", "length"] (spPut C J aN) := by
  have T' := T
  refine F.okX sc_KeptTree_put_leaf (fun vs H Q E h => ?_) (fun cdv A outer s H vs Q E hr h => ?_)
  · obtain ⟨p, pl, ts, nm, x, k, rfl, _⟩ := h
    rfl
  · obtain ⟨p, pl, ts, nm, x, k, rfl, ⟨dx, v, hp, hv⟩, okn, okx, pne, l1, l2, kb, q, qN, qJ⟩ := h
    obtain ⟨t, a, b, vs, rfl, ht, ha, hb, hA⟩ := dt_tree hv
    have vl : vs.length = ts.length := by
      have := DtAll.len hA
      rwa [List.length_map] at this
    have T := NJ
    refine ⟨_, (pss_cons (ps_expr (pe_cX (takes_of rfl rfl rfl rfl) Ccheck_places hr (by decide) rfl (pa_cons (pe_fld (pv 0) rfl) (pa_cons (pe_tup (pa_cons (pv 2) pa_nil)) pa_nil))))
      (pss_cons (ps_asg (pe_fld (pv 0) rfl) (pg_tup rfl (pgs_cons (pg_name (i := 4) sc_KeptTree_put_leaf.nd rfl (.inl rfl)) (pgs_cons (pg_name (i := 5) sc_KeptTree_put_leaf.nd rfl (.inl rfl)) pgs_nil))))
      (pss_cut (ps_if (pt_cmpR op_in_seq (pv 1) (pv 4) rfl)
        (pss_one (ps_raise rfl (takes_of rfl rfl rfl rfl) (SkE.pmk_own1 PySem.F.excBase_ValueError T.ex T.gC T.kC (raises_own T.sub T.ty) (by rfl) (pe_joined (.cons (pe_fmt (pv 1)) (.cons pe_str .nil))))))
        pss_nil)
      (pss_cons (ps_expr (pe_cX (takes_of rfl rfl rfl rfl) C_check_length hr (by decide) rfl (pa_cons (pv 3) pa_nil)))
      (pss_one (ps_fld (pv 0) (pe_tup (pa_cons (pe_op op_catZ (pv 4) (pe_tup (pa_cons (pv 1) pa_nil))) (pa_cons (pe_op op_catA (pv 5) (pe_tup (pa_cons (pe_tup (pa_cons (pv 2) (pa_cons (pv 1) (pa_cons (pv 3) pa_nil)))) pa_nil))) pa_nil))) rfl)))))), ?_⟩
    refine ⟨_, rfl, p, C, dx, _, .ref t, rfl, hp, T'.cl, T'.nT, rfl, _, rfl, (by show 1 ≤ sizeLine; decide), fun n nn => ?_⟩
    have S1 := same_new (o := .tup [.str (S x)]) (Same.refl H) nn
    have hn : (upd H n (.tup [.str (S x)])) n = some (.tup [.str (S x)]) := upd_same
    generalize upd H n (.tup [.str (S x)]) = H1 at S1 hn
    refine ⟨.ref t, n, pl, [x], ts, rfl, Dt.keep (TK.of S1) hv, hn, fun y hy => by rw [List.mem_singleton.mp hy]; exact okx, fun sub => ?_, fun pre post l e hpre hl H' d sm hx => ?_⟩
    rotate_left
    · have el : l = x := by
        cases pre with
        | nil =>
          injection e with e1 _
          exact e1.symm
        | cons a r =>
          have := congrArg List.length e
          simp at this
      subst el
      exact qN hl H' d (S1.trans sm) hx
    have hx := sub x (List.mem_singleton.mpr rfl)
    refine ⟨_, rfl, p, C, dx, _, .ref t, rfl, S1 _ _ hp, T'.cl, T'.nT, rfl, t, _, rfl, SqT.of (S1 _ _ ht), rfl, _, _, rfl, _, _, rfl, rfl, ?_⟩
    have ha1 := ha.same S1
    refine ⟨fun σ' H' => σ' = [some (.ref p), some (.str (S nm)), some (.str (S x)), some (.int k), some (.ref a), some (.ref b)] ∧ H' = H1 ∧ nm ∉ pl, ?_, fun σ' H' hM => ?_⟩
    · refine ⟨_, rfl, _, rfl, a, _, rfl, .inr ha1.sq, rfl, flat_strs pl, _, rfl, ?_⟩
      rw [inV_strs]
      by_cases c : nm ∈ pl
      · rw [decide_eq_true c]
        refine iteT ?_
        have sl : (S nm).length ≤ 1000 := by
          rw [SX.S_len]
          exact Nat.le_trans okn.2.1 (by decide)
        refine ⟨_, rfl, .inl ⟨S nm, rfl, Nat.le_trans sl (by decide), ?_⟩⟩
        have k1 : (Str.empty ++ S nm).length ≤ 1000 := by
          rw [PySem.Str.length_append]
          show 0 + (S nm).length ≤ 1000
          omega
        refine ⟨S nm, rfl, Nat.le_trans k1 (by decide), _, rfl, ?_, ?_⟩
        · rw [PySem.Str.length_append]
          have : (Str.ofString " is there").length = 9 := by decide +kernel
          exact Nat.le_trans (Nat.add_le_add k1 (Nat.le_of_eq this)) (by decide)
        · exact qJ hx (.inl c) _ S1
      · rw [decide_eq_false c]
        exact iteF ⟨rfl, rfl, c⟩
    obtain ⟨rfl, rfl, nn2⟩ := hM
    refine ⟨_, rfl, k, rfl, kb, fun k1 => ?_, fun k0 H'' sm => qJ hx (.inr k0) _ (S1.trans sm)⟩
    -- the new tree
    refine ⟨_, rfl, _, rfl, (by show 1 ≤ sizeLine; decide), fun e ne => ?_⟩
    have S2 := same_new (o := .tup [.str (S nm)]) (Same.refl H') ne
    refine cat_anyZ (xs := (pl.map S).map V.str) (ys := [.str (S nm)]) (ha1.same S2) (.inl upd_same) (by simpa using pne) (by simp) (by rw [List.length_map, List.length_map]; exact sz_le (by simp; omega)) fun p1 o1 H3 S3 od hp1 => ?_
    have hp1' : H3 p1 = some (.frz o1 (.tup (((pl ++ [nm]).map S).map V.str))) := by rw [List.map_append, List.map_append]; exact hp1
    have S3x := S1.trans (S2.trans S3)
    refine ⟨_, rfl, _, rfl, _, rfl, _, rfl, (by show 3 ≤ sizeLine; decide), fun e2 ne2 => ⟨(by show 1 ≤ sizeLine; decide), fun e3 ne3 => ?_⟩⟩
    have S4 := same_new (o := .tup [.ref e2]) (same_new (o := .tup [.str (S x), .str (S nm), .int k]) (Same.refl H3) ne2) ne3
    have he2 : (upd (upd H3 e2 (.tup [.str (S x), .str (S nm), .int k])) e3 (.tup [.ref e2])) e2 = some (.tup [.str (S x), .str (S nm), .int k]) := by
      rw [upd_ne (ne_of_none upd_same ne3)]
      exact upd_same
    refine cat_any0 (xs := vs) (ys := [.ref e2]) ((S3x.trans S4) _ _ hb) upd_same (by exact sz_le (by simp; omega)) fun p2 H5 S5 hp2 => ?_
    refine ⟨(by show 2 ≤ sizeLine; decide), fun r nr => ?_⟩
    have S5x := (S3x.trans S4).trans S5
    have S6 := same_new (o := .tup [.ref p1, .ref p2]) S5x nr
    have tk5 : TK H5 (upd H5 r (.tup [.ref p1, .ref p2])) := TK.new nr
    have hp6 := S6 _ _ hp
    have due : Dt (upd H5 r (.tup [.ref p1, .ref p2])) (.ref r) (treeD (pl ++ [nm]) (ts ++ [(x, nm, k)])) := by
      refine .tup upd_same (.cons (.tupZ rfl (by simp) od (tk5.frz _ _ _ ((S4.trans S5) _ _ hp1'))) (.cons (.tup (tk5.tup _ _ hp2) ?_) .nil))
      · rw [List.map_append]
        exact DtAll.app (DtAll.keep (TK.of S6) hA) (.cons (.tup (tk5.tup _ _ (S5 _ _ he2)) (.cons (.str _) (.cons (.str _) (.cons (.int _) .nil)))) .nil)
    have dueZ : PlZ (upd H5 r (.tup [.ref p1, .ref p2])) (.ref r) (pl ++ [nm]) := ⟨r, p1, p2, o1, rfl, upd_same, od, tk5.frz _ _ _ ((S4.trans S5) _ _ hp1')⟩
    generalize upd H5 r (.tup [.ref p1, .ref p2]) = H6 at S6 hp6 due dueZ
    refine ⟨_, rfl, p, C, dx, _, rfl, hp6, T'.cl, T'.nT, (by show 1 < 1000; decide), ?_⟩
    rw [putF_one]
    exact q hx nn2 k1 _ ⟨dx, .ref r, upd_same, Dt.keep (TK.ins hp6) due, dueZ.keep (TK.ins hp6)⟩ ((SmX.of S6).mut)
end
theorem cut_to {xs : List V} {j : Nat} (h : j ≤ xs.length) : cutV xs none (some (j : Int)) = xs.take j := by
  unfold cutV
  rw [HT.sIx_none, show HT.sIx xs.length xs.length (some (j : Int)) = min j xs.length from HT.sIx_nat _ _ j, Nat.min_eq_left h, List.drop_zero, Nat.sub_zero]
theorem cut_from {xs : List V} {j : Nat} (h : j ≤ xs.length) : cutV xs (some (j : Int)) none = xs.drop j := by
  unfold cutV
  rw [HT.sIx_none, show HT.sIx xs.length 0 (some (j : Int)) = min j xs.length from HT.sIx_nat _ _ j, Nat.min_eq_left h]
  exact List.take_of_length_le (by rw [List.length_drop]; omega)
theorem cut_toN {n j : Nat} (h : j < n) : ¬ (HT.sIx n 0 none = 0 ∧ HT.sIx n n (some (j : Int)) = n) := fun z => by
  have e : HT.sIx n n (some (j : Int)) = min j n := HT.sIx_nat _ _ j
  have := z.2
  omega
theorem cut_fromN {n j : Nat} (h : 1 ≤ j) (hn : 1 ≤ n) : ¬ (HT.sIx n 0 (some (j : Int)) = 0 ∧ HT.sIx n n none = n) := fun z => by
  have e : HT.sIx n 0 (some (j : Int)) = min j n := HT.sIx_nat _ _ j
  have := z.1
  omega
section
variable {P : Program} {w : World} {K : PySem.W.Frag} {mg : Str → Option Value} {base : Heap} {C J aN : Addr}
def but (pl : List Nm) (nm : Nm) : List Nm := pl.filter fun x => !decide (x = nm)
def spTake (C J aN : Addr) : Sp := fun vs H Q E => ∃ (p : Addr) (pl : List Nm) (ts : List Tie) (nm : Nm), vs = [.ref p, .str (S nm)] ∧ KeptZ C H p pl ts ∧ NameOk nm ∧ pl.length ≤ 900 ∧ ts.length ≤ 900 ∧
  (nm ∈ pl → deg ts nm = 1 → keptP pl (but pl nm) ≠ [] ∧ ∀ H' : Hp, KeptZ C H' p (keptP pl (but pl nm)) (keptT (keptP pl (but pl nm)) ts) → SmX p H H' → Q .non H') ∧
  (nm ∉ pl → ∀ (H' : Hp) (d : Addr), Same H H' → H' d = some (.xd [("name", .str (S nm))]) → E (.ref aN) (some d) H') ∧
  (nm ∈ pl → deg ts nm ≠ 1 → ∀ H' : Hp, Same H H' → E (.ref J) none H')
theorem ok_take {f : Addr} {fd : FuncData} (T : KtC K C) (F : Fun K "take_leaf" "KeptTree.take_leaf" s_KeptTree_take_leaf f fd) (NJ : NjC K mg J) (Ccheck_places : CalX P w K mg base 3 "check_places" (spCheckX aN)) (Cleaves_of : Cal P w K mg base 1 "leaves_of" spLeaves) (Cpart_of : Cal P w K mg base 1 "part_of" spPart) : FnOk P w K mg base (L2.CX P w) 4 f fd ["self", "name"] (spTake C J aN) := by
  have T' := T
  refine F.okX sc_KeptTree_take_leaf (fun vs H Q E h => ?_) (fun cdv A outer s H vs Q E hr h => ?_)
  · obtain ⟨p, pl, ts, nm, rfl, _⟩ := h
    rfl
  · obtain ⟨p, pl, ts, nm, rfl, ⟨dx, v, hp, hv, hz⟩, okn, l1, l2, q, qN, qJ⟩ := h
    obtain ⟨t, a, b, vs, rfl, ht, ha, hb, hA⟩ := dt_tree hv
    have T := NJ
    refine ⟨_, (pss_cons (ps_expr (pe_cX (takes_of rfl rfl rfl rfl) Ccheck_places hr (by decide) rfl (pa_cons (pe_fld (pv 0) rfl) (pa_cons (pe_tup (pa_cons (pv 1) pa_nil)) pa_nil))))
      (pss_cut (ps_if (pt_cmpR op_notIn_seq (pv 1) (pe_c Cleaves_of hr (by decide) rfl (pa_cons (pe_fld (pv 0) rfl) pa_nil)) rfl)
        (pss_one (ps_raise rfl (takes_of rfl rfl rfl rfl) (SkE.pmk_own1 PySem.F.excBase_ValueError T.ex T.gC T.kC (raises_own T.sub T.ty) (by rfl) (pe_joined (.cons (pe_fmt (pv 1)) (.cons pe_str .nil))))))
        pss_nil)
      (pss_one (ps_fld (pv 0) (pe_c Cpart_of hr (by decide) rfl (pa_cons (pe_fld (pv 0) rfl) (pa_cons (pe_lc (own := [("place", 2)]) (g := gName 2)  rfl sc_KeptTree_take_leaf.nd (pi_tup (pe_ix ix_tup (pe_fld (pv 0) rfl) pe_int (fun _ _ => rfl))) (blkOk_by (N := N_KeptTree_take_leaf) (sc := defScope s_KeptTree_take_leaf) (by decide +kernel)) (fun _ _ _ _ _ => pg_name (i := 2) sc_KeptTree_take_leaf.nd rfl (Or.inl rfl)) (fun _ _ _ _ _ => pts_one (pt_cmpR op_ne (pv 2) (pv 1) (nomark _))) (fun _ _ _ _ _ => (pv 2))) pa_nil))) rfl)))), ?_⟩
    refine ⟨_, rfl, p, C, dx, _, .ref t, rfl, hp, T'.cl, T'.nT, rfl, _, rfl, (by show 1 ≤ sizeLine; decide), fun n nn => ?_⟩
    have S1 := same_new (o := .tup [.str (S nm)]) (Same.refl H) nn
    have hn : (upd H n (.tup [.str (S nm)])) n = some (.tup [.str (S nm)]) := upd_same
    generalize upd H n (.tup [.str (S nm)]) = H1 at S1 hn
    refine ⟨.ref t, n, pl, [nm], ts, rfl, Dt.keep (TK.of S1) hv, hn, fun y hy => by rw [List.mem_singleton.mp hy]; exact okn, fun sub => ?_, fun pre post l e hpre hl H' d sm hx => ?_⟩
    rotate_left
    · have el : l = nm := by
        cases pre with
        | nil =>
          injection e with e1 _
          exact e1.symm
        | cons a r =>
          have := congrArg List.length e
          simp at this
      subst el
      exact qN hl H' d (S1.trans sm) hx
    have hx := sub nm (List.mem_singleton.mpr rfl)
    refine ⟨fun σ' H' => σ' = [some (.ref p), some (.str (S nm)), none] ∧ Same H H' ∧ deg ts nm = 1, ?_, fun σ' H2 hM => ?_⟩
    · refine ⟨_, rfl, _, rfl, p, C, dx, _, .ref t, rfl, S1 _ _ hp, T'.cl, T'.nT, rfl, .ref t, pl, ts, rfl, Dt.keep (TK.of S1) hv, by omega, by omega, fun H2 g S2 ng hg => ?_⟩
      refine ⟨g, _, rfl, .inr (SqT.of hg), rfl, flat_strs _, _, rfl, ?_⟩
      rw [inV_strs]
      by_cases c : nm ∈ leavesOf pl ts
      · rw [decide_eq_true c]
        have := (List.mem_filter.mp c).2
        exact iteF ⟨rfl, S1.trans S2, of_decide_eq_true this⟩
      · rw [decide_eq_false c]
        have dn : deg ts nm ≠ 1 := fun z => c (List.mem_filter.mpr ⟨hx, decide_eq_true z⟩)
        refine iteT ?_
        have sl : (S nm).length ≤ 1000 := by
          rw [SX.S_len]
          exact Nat.le_trans okn.2.1 (by decide)
        refine ⟨_, rfl, .inl ⟨S nm, rfl, Nat.le_trans sl (by decide), ?_⟩⟩
        have k1 : (Str.empty ++ S nm).length ≤ 1000 := by
          rw [PySem.Str.length_append]
          show 0 + (S nm).length ≤ 1000
          omega
        refine ⟨S nm, rfl, Nat.le_trans k1 (by decide), _, rfl, ?_, ?_⟩
        · rw [PySem.Str.length_append]
          have : (Str.ofString " is no leaf").length = 11 := by decide +kernel
          exact Nat.le_trans (Nat.add_le_add k1 (Nat.le_of_eq this)) (by decide)
        · exact qJ hx dn _ (S1.trans S2)
    obtain ⟨rfl, S2, d1⟩ := hM
    refine ⟨_, rfl, p, C, dx, _, .ref t, rfl, S2 _ _ hp, T'.cl, T'.nT, rfl, _, rfl, p, C, dx, _, .ref t, rfl, S2 _ _ hp, T'.cl, T'.nT, rfl, t, _, 0, .ref a, rfl, rfl, SqT.of (S2 _ _ ht), atI_nat (j := 0) rfl, a, rfl, ⟨_, (ha.same S2).sq⟩, fun D nD => ?_⟩
    refine lc_tup (K := K) (a := a) (xs := (pl.map S).map V.str) (fun i H' => Same H H' ∧ H' D = some (.lst (((but (pl.take i) nm).map S).map V.str))) ⟨same_new S2 nD, upd_same⟩ (fun i H' _ hP => (ha.same hP.1).sq) (fun i v H' hi hP => ?_) (fun H' hP => ?_)
    · obtain ⟨SM, hD⟩ := hP
      obtain ⟨x, hx, mx, rfl, ex⟩ := at_name hi
      refine ⟨rfl, _, rfl, _, rfl, rfl, _, rfl, ?_⟩
      have gl : (but (pl.take i) nm).length ≤ 1000 := by
        unfold but
        have := List.length_filter_le (fun x => !decide (x = nm)) (pl.take i)
        rw [List.length_take] at this
        omega
      by_cases c : x = nm
      · have e1 : decide (V.str (S x) = V.str (S nm)) = true := decide_eq_true (by rw [c])
        rw [e1]
        refine iteF ⟨SM, ?_⟩
        rw [ex]
        unfold but at *
        rw [List.filter_append, List.filter_cons_of_neg (by simp [c])]
        simpa using hD
      · have e1 : decide (V.str (S x) = V.str (S nm)) = false := decide_eq_false fun z => c (SX.S_inj (V.str.inj z))
        rw [e1]
        refine iteT ⟨_, rfl, _, hD, by rw [List.length_map, List.length_map]; exact sz_lt (by omega), same_put SM (S2.free nD), ?_⟩
        rw [upd_same, ex]
        unfold but
        rw [List.filter_append, List.filter_cons_of_pos (by simp [c]), List.map_append, List.map_append]
        rfl
    obtain ⟨SM, hD⟩ := hP
    rw [List.length_map, List.length_map, List.take_length] at hD
    refine ⟨.ref t, D, pl, but pl nm, ts, rfl, Dt.keep (TK.of SM) hv, hD, by omega, by omega, (q hx d1).1, fun H3 r S3 nr hr hrz => ?_⟩
    have S4 := SM.trans S3
    have hp4 := S4 _ _ hp
    refine ⟨_, rfl, p, C, dx, _, rfl, hp4, T'.cl, T'.nT, (by show 1 < 1000; decide), ?_⟩
    rw [putF_one]
    exact (q hx d1).2 _ ⟨dx, .ref r, upd_same, Dt.keep (TK.ins hp4) hr, hrz.keep (TK.ins hp4)⟩ ((SmX.of S4).mut)
def spLonger (C J aN : Addr) : Sp := fun vs H Q E => ∃ (p : Addr) (pl : List Nm) (ts : List Tie) (u x : Nm) (k : Int), vs = [.ref p, .str (S u), .str (S x), .int k] ∧ KeptZ C H p pl ts ∧ NameOk u ∧ NameOk x ∧ pl ≠ [] ∧ pl.length ≤ 900 ∧ ts.length ≤ 900 ∧ (∀ e ∈ ts, NameOk e.1 ∧ NameOk e.2.1) ∧ (-10000000 ≤ k ∧ k ≤ 10000000) ∧
  (u ∈ pl → x ∈ pl → 1 ≤ k → ∀ (i : Nat) (e : Tie), ts.findIdx? (isTie u x) = some i → ts[i]? = some e → ∀ H' : Hp, KeptZ C H' p pl (ts.take i ++ [(e.1, e.2.1, k)] ++ ts.drop (i + 1)) → SmX p H H' → Q .non H') ∧
  (∀ l, ((u ∉ pl ∧ l = u) ∨ (u ∈ pl ∧ x ∉ pl ∧ l = x)) → ∀ (H' : Hp) (d : Addr), Same H H' → H' d = some (.xd [("name", .str (S l))]) → E (.ref aN) (some d) H') ∧
  (u ∈ pl → x ∈ pl → (ts.findIdx? (isTie u x) = none ∨ k < 1) → ∀ H' : Hp, Same H H' → E (.ref J) none H')
theorem ok_longer {f : Addr} {fd : FuncData} (T : KtC K C) (F : Fun K "lengthen" "KeptTree.lengthen" s_KeptTree_lengthen f fd) (NJ : NjC K mg J) (Ccheck_places : CalX P w K mg base 3 "check_places" (spCheckX aN)) (C_number_of_tie : Cal P w K mg base 3 "_number_of_tie" spNum) (C_check_length : CalX P w K mg base 1 "_check_length" (spCkLen J)) : FnOk P w K mg base (L2.CX P w) 4 f fd ["self", "one", "other", "length"] (spLonger C J aN) := by
  have T' := T
  refine F.okX sc_KeptTree_lengthen (fun vs H Q E h => ?_) (fun cdv A outer s H vs Q E hr h => ?_)
  · obtain ⟨p, pl, ts, u, x, k, rfl, _⟩ := h
    rfl
  · obtain ⟨p, pl, ts, u, x, k, rfl, ⟨dx, v, hp, hv, hz⟩, oku, okx, pne, l1, l2, okt, kb, q, qN, qJ⟩ := h
    obtain ⟨t, a, b, vs, rfl, ht, ha, hb, hA⟩ := dt_tree hv
    have vl : vs.length = ts.length := by
      have := DtAll.len hA
      rwa [List.length_map] at this
    have T := NJ
    refine ⟨_, (pss_cons (ps_expr (pe_cX (takes_of rfl rfl rfl rfl) Ccheck_places hr (by decide) rfl (pa_cons (pe_fld (pv 0) rfl) (pa_cons (pe_tup (pa_cons (pv 1) (pa_cons (pv 2) pa_nil))) pa_nil))))
      (pss_cons (ps_asg (pe_fld (pv 0) rfl) (pg_tup rfl (pgs_cons (pg_name (i := 4) sc_KeptTree_lengthen.nd rfl (.inl rfl)) (pgs_cons (pg_name (i := 5) sc_KeptTree_lengthen.nd rfl (.inl rfl)) pgs_nil))))
      (pss_cons (ps_set (i := 6) sc_KeptTree_lengthen.nd rfl (.inl rfl) (pe_c C_number_of_tie hr (by decide) rfl (pa_cons (pv 5) (pa_cons (pv 1) (pa_cons (pv 2) pa_nil)))))
      (pss_cut (ps_if (pt_cmpR op_isN (pv 6) pe_non (nomark _))
        (pss_one (ps_raise rfl (takes_of rfl rfl rfl rfl) (SkE.pmk_own1 PySem.F.excBase_ValueError T.ex T.gC T.kC (raises_own T.sub T.ty) (by rfl) (pe_joined (.cons (pe_fmt (pv 1)) (.cons pe_str (.cons (pe_fmt (pv 2)) (.cons pe_str .nil))))))))
        pss_nil)
      (pss_cons (ps_expr (pe_cX (takes_of rfl rfl rfl rfl) C_check_length hr (by decide) rfl (pa_cons (pv 3) pa_nil)))
      (pss_cons (ps_asg (pe_ix ix_tup (pv 5) (pv 6) (fun _ _ => rfl)) (pg_tup rfl (pgs_cons (pg_name (i := 7) sc_KeptTree_lengthen.nd rfl (.inl rfl)) (pgs_cons (pg_name (i := 8) sc_KeptTree_lengthen.nd rfl (.inl rfl)) (pgs_cons (pg_name (i := 9) sc_KeptTree_lengthen.nd rfl (.inl rfl)) pgs_nil)))))
      (pss_one (ps_fld (pv 0) (pe_tup (pa_cons (pv 4) (pa_cons (pe_op op_catA (pe_op op_catA (pe_slice sl_tup (pv 5) po_none (po_some (pv 6))) (pe_tup (pa_cons (pe_tup (pa_cons (pv 7) (pa_cons (pv 8) (pa_cons (pv 3) pa_nil)))) pa_nil))) (pe_slice sl_tup (pv 5) (po_some (pe_op op_add (pv 6) pe_int)) po_none)) pa_nil))) rfl)))))))), ?_⟩
    refine ⟨_, rfl, p, C, dx, _, .ref t, rfl, hp, T'.cl, T'.nT, rfl, _, rfl, _, rfl, (by show 2 ≤ sizeLine; decide), fun n nn => ?_⟩
    have S1 := same_new (o := .tup [.str (S u), .str (S x)]) (Same.refl H) nn
    have hn : (upd H n (.tup [.str (S u), .str (S x)])) n = some (.tup [.str (S u), .str (S x)]) := upd_same
    generalize upd H n (.tup [.str (S u), .str (S x)]) = H1 at S1 hn
    refine ⟨.ref t, n, pl, [u, x], ts, rfl, Dt.keep (TK.of S1) hv, hn, fun y hy => ?_, fun sub => ?_, fun pre post l e hpre hl H' d sm hx => ?_⟩
    · simp only [List.mem_cons, List.not_mem_nil, or_false] at hy
      rcases hy with e | e <;> rw [e]
      · exact oku
      · exact okx
    rotate_left
    · refine qN l ?_ H' d (S1.trans sm) hx
      cases pre with
      | nil =>
        injection e with e1 _
        exact .inl ⟨by rw [e1]; exact hl, e1.symm⟩
      | cons z r =>
        injection e with e1 e2
        cases r with
        | nil =>
          injection e2 with e3 _
          exact .inr ⟨by rw [e1]; exact hpre z List.mem_cons_self, by rw [e3]; exact hl, e3.symm⟩
        | cons y r' =>
          have := congrArg List.length e2
          simp at this
    have hu := sub u (by simp)
    have hx := sub x (by simp)
    refine ⟨_, rfl, p, C, dx, _, .ref t, rfl, S1 _ _ hp, T'.cl, T'.nT, rfl, t, _, rfl, SqT.of (S1 _ _ ht), rfl, _, _, rfl, _, _, rfl, rfl, ?_⟩
    refine ⟨_, rfl, _, rfl, _, rfl, b, vs, ts, u, x, rfl, S1 _ _ hb, DtAll.keep (TK.of S1) hA, okt, oku, okx, fun H2 S2 => ?_⟩
    have S2x := S1.trans S2
    cases ef : ts.findIdx? (isTie u x) with
    | none =>
      refine ⟨fun σ' H' => False, ?_, fun σ' H' hM => hM.elim⟩
      refine ⟨_, rfl, rfl, _, rfl, iteT ?_⟩
      have su : (S u).length ≤ 8 := by
        rw [SX.S_len]
        exact oku.2.1
      have sx : (S x).length ≤ 8 := by
        rw [SX.S_len]
        exact okx.2.1
      have k1 : (Str.empty ++ S u).length ≤ 8 := by
        rw [PySem.Str.length_append]
        show 0 + (S u).length ≤ 8
        omega
      have c1 : (Str.ofString " and ").length = 5 := by decide +kernel
      have c2 : (Str.ofString " have no tie").length = 12 := by decide +kernel
      have k2 : (Str.empty ++ S u ++ Str.ofString " and ").length ≤ 13 := by
        rw [PySem.Str.length_append]
        omega
      have k3 : (Str.empty ++ S u ++ Str.ofString " and " ++ S x).length ≤ 21 := by
        rw [PySem.Str.length_append]
        omega
      refine ⟨_, rfl, .inl ⟨S u, rfl, sz_le (by omega), S u, rfl, sz_le (by omega), _, rfl, sz_le (by omega), ?_⟩⟩
      refine ⟨_, rfl, .inl ⟨S x, rfl, sz_le (by omega), S x, rfl, sz_le (by omega), _, rfl, sz_le (by rw [PySem.Str.length_append]; omega), ?_⟩⟩
      exact qJ hu hx (.inl ef) _ S2x
    | some i =>
      have il : i < ts.length := by
        have := List.findIdx?_eq_some_iff_getElem.mp ef
        exact this.1
      obtain ⟨t3, ht3⟩ : ∃ e, ts[i]? = some e := ⟨ts[i], List.getElem?_eq_getElem il⟩
      refine ⟨fun σ' H' => σ' = [some (.ref p), some (.str (S u)), some (.str (S x)), some (.int k), some (.ref a), some (.ref b), some (.int (i : Nat)), none, none, none] ∧ H' = H2, ⟨_, rfl, rfl, _, rfl, iteF ⟨rfl, rfl⟩⟩, fun σ' H' hM => ?_⟩
      obtain ⟨rfl, rfl⟩ := hM
      refine ⟨_, rfl, k, rfl, kb, fun k1 => ?_, fun k0 H'' sm => qJ hu hx (.inr k0) _ (S2x.trans sm)⟩
      have hb2 := S2x _ _ hb
      have hA2 := DtAll.keep (TK.of S2x) hA
      have hvi : ∃ w, vs[i]? = some w := ⟨vs[i], List.getElem?_eq_getElem (by omega)⟩
      obtain ⟨w, hw⟩ := hvi
      obtain ⟨t4, p3, ht4, rfl, hp3⟩ := tie_at hA2 hw
      have e34 : t4 = t3 := Option.some.inj (ht4.symm.trans ht3)
      subst e34
      refine ⟨_, rfl, _, rfl, b, _, (i : Nat), .ref p3, rfl, rfl, SqT.of hb2, atI_nat hw, p3, _, rfl, SqT.of hp3, rfl, _, _, rfl, _, _, rfl, _, _, rfl, rfl, ?_⟩
      -- the new tree
      refine ⟨_, rfl, _, rfl, _, rfl, (i : Nat), rfl, b, vs, rfl, SqT.of hb2, cut_toN (by omega), fun q1 nq1 => ?_⟩
      rw [cut_to (by omega)]
      have S3 := same_new (o := .tup (vs.take i)) (Same.refl H') nq1
      have hq1 : (upd H' q1 (.tup (vs.take i))) q1 = some (.tup (vs.take i)) := upd_same
      generalize upd H' q1 (.tup (vs.take i)) = H3 at S3 hq1
      refine ⟨_, rfl, _, rfl, _, rfl, (by show 3 ≤ sizeLine; decide), fun e2 ne2 => ⟨(by show 1 ≤ sizeLine; decide), fun e3 ne3 => ?_⟩⟩
      have S4 := same_new (o := .tup [.ref e2]) (same_new (o := .tup [.str (S t4.1), .str (S t4.2.1), .int k]) (Same.refl H3) ne2) ne3
      have he2 : (upd (upd H3 e2 (.tup [.str (S t4.1), .str (S t4.2.1), .int k])) e3 (.tup [.ref e2])) e2 = some (.tup [.str (S t4.1), .str (S t4.2.1), .int k]) := by
        rw [upd_ne (ne_of_none upd_same ne3)]
        exact upd_same
      refine cat_any0 (xs := vs.take i) (ys := [.ref e2]) (S4 _ _ hq1) upd_same (by rw [List.length_take]; exact sz_le (by simp; omega)) fun q2 H5 S5 hq2 => ?_
      have hb5 := (S3.trans (S4.trans S5)) _ _ hb2
      have ei : ((i : Nat) : Int) + 1 = ((i + 1 : Nat) : Int) := by omega
      refine ⟨_, rfl, _, rfl, _, _, rfl, rfl, ((i + 1 : Nat) : Int), congrArg V.int ei, b, vs, rfl, SqT.of hb5, cut_fromN (by omega) (by omega), fun q3 nq3 => ?_⟩
      rw [cut_from (by omega)]
      have S6 := same_new (o := .tup (vs.drop (i + 1))) (Same.refl H5) nq3
      refine cat_any0 (xs := vs.take i ++ [.ref e2]) (ys := vs.drop (i + 1)) (S6 _ _ hq2) upd_same (by rw [List.length_append, List.length_take, List.length_drop]; exact sz_le (by simp; omega)) fun q4 H7 S7 hq4 => ?_
      refine ⟨(by show 2 ≤ sizeLine; decide), fun r nr => ?_⟩
      have S7x := S2x.trans (S3.trans ((S4.trans S5).trans (S6.trans S7)))
      have S8 := same_new (o := .tup [.ref a, .ref q4]) S7x nr
      have tk7 : TK H7 (upd H7 r (.tup [.ref a, .ref q4])) := TK.new nr
      have hp8 := S8 _ _ hp
      have due : Dt (upd H7 r (.tup [.ref a, .ref q4])) (.ref r) (treeD pl (ts.take i ++ [(t4.1, t4.2.1, k)] ++ ts.drop (i + 1))) := by
        refine .tup upd_same (.cons (names_dt ((ha.same S7x).upd nr) pne) (.cons (.tup (tk7.tup _ _ hq4) ?_) .nil))
        have hA8 := DtAll.keep (TK.of S8) hA
        have h1 := DtAll.cut i hA8
        rw [List.map_append, List.map_append]
        refine DtAll.app (DtAll.app ?_ (.cons (.tup (tk7.tup _ _ ((S5.trans (S6.trans S7)) _ _ he2)) (.cons (.str _) (.cons (.str _) (.cons (.int _) .nil)))) .nil)) ?_
        · rw [List.map_take]
          exact h1.1
        · rw [List.map_drop]
          exact (DtAll.cut (i + 1) hA8).2
      have dueZ : PlZ (upd H7 r (.tup [.ref a, .ref q4])) (.ref r) pl := by
        obtain ⟨t', a', b', o, et, ht', od, hfz⟩ := hz
        cases et
        rw [ht] at ht'
        cases ht'
        exact ⟨r, a, q4, o, rfl, upd_same, od, S8 _ _ hfz⟩
      generalize upd H7 r (.tup [.ref a, .ref q4]) = H8 at S8 hp8 due dueZ
      refine ⟨_, rfl, p, C, dx, _, rfl, hp8, T'.cl, T'.nT, (by show 1 < 1000; decide), ?_⟩
      rw [putF_one]
      exact q hu hx k1 i t4 ef ht3 _ ⟨dx, .ref r, upd_same, Dt.keep (TK.ins hp8) due, dueZ.keep (TK.ins hp8)⟩ ((SmX.of S8).mut)
end
end Far

namespace Far
open PySem PySem.Spec PyProof.Rows L2
open SX (S)
/-! ### leaves come and go -/
def rem (ts : List Tie) (x : Nm) : List Tie := ts.filter fun t => !decide (t.1 = x) && !decide (t.2.1 = x)
theorem deg_app (x : Nm) (ts us : List Tie) : deg (ts ++ us) x = deg ts x + deg us x := by
  unfold deg
  rw [List.map_append, List.map_append, List.countP_append, List.countP_append]
  omega
theorem deg_perm {x : Nm} {ts us : List Tie} (p : ts.Perm us) : deg ts x = deg us x := by
  unfold deg
  rw [(p.map (·.1)).countP_eq, (p.map (·.2.1)).countP_eq]
theorem deg_zero {x : Nm} {ts : List Tie} (h : ∀ e ∈ ts, e.1 ≠ x ∧ e.2.1 ≠ x) : deg ts x = 0 := by
  unfold deg
  rw [List.countP_eq_zero.mpr, List.countP_eq_zero.mpr]
  · intro a ha
    obtain ⟨e, he, rfl⟩ := List.mem_map.mp ha
    simp [(h e he).2]
  · intro a ha
    obtain ⟨e, he, rfl⟩ := List.mem_map.mp ha
    simp [(h e he).1]
theorem deg_one (e : Tie) (x : Nm) : deg [e] x = (if e.1 = x then 1 else 0) + (if e.2.1 = x then 1 else 0) := by
  unfold deg
  simp [List.countP_cons]
theorem deg_e {a b x : Nm} {k : Int} {e : Tie} (he : e = (a, b, k) ∨ e = (b, a, k)) : deg [e] x = (if a = x then 1 else 0) + (if b = x then 1 else 0) := by
  rw [deg_one]
  rcases he with e | e <;> subst e <;> simp
  omega
theorem rem_app (x : Nm) (ts us : List Tie) : rem (ts ++ us) x = rem ts x ++ rem us x := List.filter_append ..
theorem rem_all {x : Nm} {ts : List Tie} (h : ∀ e ∈ ts, e.1 ≠ x ∧ e.2.1 ≠ x) : rem ts x = ts := List.filter_eq_self.mpr fun e he => by simp [h e he]
theorem but_all {x : Nm} {pl : List Nm} (h : x ∉ pl) : but pl x = pl := List.filter_eq_self.mpr fun y hy => by
  have : y ≠ x := fun e => h (e ▸ hy)
  simp [this]
theorem but_app (x : Nm) (pl ql : List Nm) : but (pl ++ ql) x = but pl x ++ but ql x := List.filter_append ..
theorem mem_but {pl : List Nm} {x y : Nm} : y ∈ but pl x ↔ y ∈ pl ∧ y ≠ x := by
  unfold but
  rw [List.mem_filter]
  simp
theorem Grown.no_b {os : List Nm} {es : List Tie} (g : Grown os es) {b : Nm} (hb : b ∉ os) : ∀ e ∈ es, e.1 ≠ b ∧ e.2.1 ≠ b := fun e he => by
  obtain ⟨h1, h2, _⟩ := g.ties e he
  exact ⟨fun z => hb (z ▸ h1), fun z => hb (z ▸ h2)⟩
theorem Grown.deg0 {os : List Nm} {es : List Tie} (g : Grown os es) : ∀ {x : Nm}, x ∈ os → deg es x = 0 → os = [x] ∧ es = [] := by
  induction g with
  | one a => intro x hx _; rw [List.mem_singleton.mp hx]; exact ⟨rfl, rfl⟩
  | @leaf os es a b k e g ha hb he k1 k2 ih =>
    intro x hx hd
    rw [deg_app, deg_e he] at hd
    by_cases eb : b = x
    · rw [if_pos eb] at hd
      omega
    · have hx' : x ∈ os := by
        rcases List.mem_append.mp hx with z | z
        · exact z
        · exact absurd (List.mem_singleton.mp z).symm eb
      obtain ⟨h1, h2⟩ := ih hx' (by omega)
      rw [h1] at ha
      rw [if_pos (List.mem_singleton.mp ha)] at hd
      omega
theorem Grown.less {os : List Nm} {es : List Tie} (g : Grown os es) : ∀ {x : Nm}, x ∈ os → deg es x = 1 → IsTree (but os x) (rem es x) := by
  induction g with
  | one a => intro x _ hd; cases hd
  | @leaf os es a b k e g ha hb he k1 k2 ih =>
    intro x hx hd
    have ab : a ≠ b := fun z => hb (z ▸ ha)
    have nb := g.no_b hb
    rw [deg_app, deg_e he] at hd
    rw [but_app, rem_app]
    by_cases eb : b = x
    · subst eb
      rw [but_all hb, rem_all nb]
      have e1 : but [b] b = [] := by simp [but]
      have e2 : rem [e] b = [] := by
        rcases he with z | z <;> subst z <;> simp [rem]
      rw [e1, e2, List.append_nil, List.append_nil]
      exact ⟨os, es, g, .refl _, .refl _⟩
    · have hx' : x ∈ os := by
        rcases List.mem_append.mp hx with z | z
        · exact z
        · exact absurd (List.mem_singleton.mp z).symm eb
      rw [if_neg eb] at hd
      have e1 : but [b] x = [b] := by simp [but, eb]
      rw [e1]
      by_cases ea : a = x
      · subst ea
        rw [if_pos rfl] at hd
        obtain ⟨h1, h2⟩ := g.deg0 hx' (by omega)
        have e2 : rem [e] a = [] := by
          rcases he with z | z <;> subst z <;> simp [rem]
        have e3 : but [a] a = [] := by simp [but]
        rw [h1, h2, e2, e3]
        exact ⟨[b], [], .one b, .refl _, .refl _⟩
      · rw [if_neg ea] at hd
        obtain ⟨os', es', g', p1, p2⟩ := ih hx' (by omega)
        have e2 : rem [e] x = [e] := by
          rcases he with z | z <;> subst z <;> simp [rem, ea, eb]
        rw [e2]
        refine ⟨os' ++ [b], es' ++ [e], Grown.leaf (a := a) (k := k) g' (p1.mem_iff.mp (mem_but.mpr ⟨ha, ea⟩)) (fun z => hb (mem_but.mp (p1.mem_iff.mpr z)).1) he k1 k2, p1.append_right _, p2.append_right _⟩
theorem IsTree.less {pl : List Nm} {ts : List Tie} (h : IsTree pl ts) {x : Nm} (hx : x ∈ pl) (hd : deg ts x = 1) : IsTree (but pl x) (rem ts x) := by
  obtain ⟨os, es, g, p, q⟩ := h
  obtain ⟨os', es', g', p', q'⟩ := g.less (p.mem_iff.mp hx) (by rw [← deg_perm q]; exact hd)
  exact ⟨os', es', g', (p.filter _).trans p', (q.filter _).trans q'⟩
theorem IsTree.more {pl : List Nm} {ts : List Tie} (h : IsTree pl ts) {x nm : Nm} {k : Int} (hx : x ∈ pl) (hn : nm ∉ pl) (k1 : 1 ≤ k) (k2 : k ≤ 1000000) : IsTree (pl ++ [nm]) (ts ++ [(x, nm, k)]) := by
  obtain ⟨os, es, g, p, q⟩ := h
  exact ⟨os ++ [nm], es ++ [(x, nm, k)], Grown.leaf (a := x) (k := k) g (p.mem_iff.mp hx) (fun z => hn (p.mem_iff.mpr z)) (.inl rfl) k1 k2, p.append_right _, q.append_right _⟩
theorem Grown.leaf_in {os : List Nm} {es : List Tie} (g : Grown os es) (h : 2 ≤ os.length) : ∃ x ∈ os, deg es x = 1 := by
  cases g with
  | one a => simp at h
  | @leaf os es a b k e g ha hb he k1 k2 =>
    refine ⟨b, by simp, ?_⟩
    have ab : ¬ a = b := fun z => hb (z ▸ ha)
    rw [deg_app, deg_e he, deg_zero (g.no_b hb), if_neg ab, if_pos rfl]
theorem IsTree.leaf_in {pl : List Nm} {ts : List Tie} (h : IsTree pl ts) (l : 2 ≤ pl.length) : leavesOf pl ts ≠ [] := by
  obtain ⟨os, es, g, p, q⟩ := h
  obtain ⟨x, hx, hd⟩ := g.leaf_in (by rw [← p.length_eq]; exact l)
  intro z
  have : x ∈ leavesOf pl ts := List.mem_filter.mpr ⟨p.mem_iff.mpr hx, decide_eq_true (by rw [deg_perm q]; exact hd)⟩
  rw [z] at this
  cases this
theorem mem_leaves {pl : List Nm} {ts : List Tie} {x : Nm} (h : x ∈ leavesOf pl ts) : x ∈ pl ∧ deg ts x = 1 := ⟨(List.mem_filter.mp h).1, of_decide_eq_true (List.mem_filter.mp h).2⟩
theorem keptP_but (pl : List Nm) (x : Nm) : keptP pl (but pl x) = but pl x := by
  unfold keptP
  conv => rhs; unfold but
  refine List.filter_congr fun y hy => ?_
  by_cases c : y = x
  · have : ¬ y ∈ but pl x := fun z => (mem_but.mp z).2 c
    rw [decide_eq_false this, decide_eq_true c]
    rfl
  · have : y ∈ but pl x := mem_but.mpr ⟨hy, c⟩
    rw [decide_eq_true this, decide_eq_false c]
    rfl
theorem keptT_but {pl : List Nm} {ts : List Tie} (h : ∀ e ∈ ts, e.1 ∈ pl ∧ e.2.1 ∈ pl) (x : Nm) : keptT (but pl x) ts = rem ts x := by
  unfold keptT rem
  refine List.filter_congr fun e he => ?_
  obtain ⟨h1, h2⟩ := h e he
  have a : decide (e.1 ∈ but pl x) = !decide (e.1 = x) := by
    by_cases c : e.1 = x
    · rw [decide_eq_true c, decide_eq_false fun z => (mem_but.mp z).2 c]
      rfl
    · rw [decide_eq_false c, decide_eq_true (mem_but.mpr ⟨h1, c⟩)]
      rfl
  have b : decide (e.2.1 ∈ but pl x) = !decide (e.2.1 = x) := by
    by_cases c : e.2.1 = x
    · rw [decide_eq_true c, decide_eq_false fun z => (mem_but.mp z).2 c]
      rfl
    · rw [decide_eq_false c, decide_eq_true (mem_but.mpr ⟨h2, c⟩)]
      rfl
  rw [a, b]
/-! ### a tie of another length -/
theorem Grown.other {os : List Nm} {es : List Tie} (g : Grown os es) : ∀ {s1 s2 : List Tie} {a b : Nm} {k k' : Int}, es = s1 ++ (a, b, k) :: s2 → 1 ≤ k' → k' ≤ 1000000 → Grown os (s1 ++ (a, b, k') :: s2) := by
  induction g with
  | one a => intro s1 s2 a b k k' h; exact absurd h (by simp)
  | @leaf os es a b k e g ha hb he k1 k2 ih =>
    intro s1 s2 c d m m' h h1 h2
    rcases List.eq_nil_or_concat s2 with z | ⟨s3, y, z⟩
    · subst z
      have := List.append_inj' h rfl
      obtain ⟨e1, e2⟩ := this
      injection e2 with e3 _
      rw [← e1]
      refine Grown.leaf (a := a) (k := m') g ha hb ?_ h1 h2
      rcases he with z | z <;> rw [z] at e3 <;> cases e3
      · exact .inl rfl
      · exact .inr rfl
    · rw [List.concat_eq_append] at z
      subst z
      have h' : es ++ [e] = (s1 ++ (c, d, m) :: s3) ++ [y] := by rw [h]; simp
      obtain ⟨e1, e2⟩ := List.append_inj' h' rfl
      injection e2 with e3 _
      have := Grown.leaf (a := a) (k := k) (ih e1 h1 h2) ha hb he k1 k2
      rw [e3] at this
      simpa using this
theorem IsTree.other {pl : List Nm} {t1 t2 : List Tie} {a b : Nm} {k k' : Int} (h : IsTree pl (t1 ++ (a, b, k) :: t2)) (h1 : 1 ≤ k') (h2 : k' ≤ 1000000) : IsTree pl (t1 ++ [(a, b, k')] ++ t2) := by
  obtain ⟨os, es, g, p, q⟩ := h
  obtain ⟨s1, s2, e⟩ := List.append_of_mem (q.mem_iff.mp (List.mem_append_right t1 List.mem_cons_self))
  refine ⟨os, s1 ++ (a, b, k') :: s2, g.other e h1 h2, p, ?_⟩
  have q1 : (t1 ++ t2).Perm (s1 ++ s2) := by
    rw [e] at q
    exact (List.perm_cons (a, b, k)).mp ((List.perm_middle.symm.trans q).trans List.perm_middle)
  have q2 : (t1 ++ [(a, b, k')] ++ t2).Perm ((a, b, k') :: (t1 ++ t2)) := by
    rw [List.append_assoc]
    exact List.perm_middle
  exact (q2.trans (q1.cons _)).trans List.perm_middle.symm
/-! ### one tie of two places -/
def sameEnds (s t : Tie) : Prop := (s.1 = t.1 ∧ s.2.1 = t.2.1) ∨ (s.1 = t.2.1 ∧ s.2.1 = t.1)
theorem sameEnds.symm {s t : Tie} (h : sameEnds s t) : sameEnds t s := by
  rcases h with ⟨a, b⟩ | ⟨a, b⟩
  · exact .inl ⟨a.symm, b.symm⟩
  · exact .inr ⟨b.symm, a.symm⟩
theorem Grown.apart {os : List Nm} {es : List Tie} (g : Grown os es) : es.Pairwise fun s t => ¬ sameEnds s t := by
  induction g with
  | one a => exact List.Pairwise.nil
  | @leaf os es a b k e g ha hb he k1 k2 ih =>
    rw [List.pairwise_append]
    refine ⟨ih, List.pairwise_singleton _ _, fun s hs t ht => ?_⟩
    rw [List.mem_singleton.mp ht]
    obtain ⟨n1, n2⟩ := g.no_b hb s hs
    rintro (⟨h1, h2⟩ | ⟨h1, h2⟩) <;> rcases he with z | z <;> subst z
    · exact n2 h2
    · exact n1 h1
    · exact n1 h1
    · exact n2 h2
theorem IsTree.apart {pl : List Nm} {ts : List Tie} (h : IsTree pl ts) : ts.Pairwise fun s t => ¬ sameEnds s t := by
  obtain ⟨os, es, g, p, q⟩ := h
  exact (q.pairwise_iff fun {a b} h z => h z.symm).mpr g.apart
theorem isTie_iff {u x : Nm} {t : Tie} : isTie u x t = true ↔ (t.1 = u ∧ t.2.1 = x) ∨ (t.1 = x ∧ t.2.1 = u) := by
  unfold isTie
  simp
theorem IsTree.find {pl : List Nm} {ts : List Tie} (h : IsTree pl ts) {i : Nat} {e : Tie} (hi : ts[i]? = some e) {u x : Nm} (hu : (u = e.1 ∧ x = e.2.1) ∨ (u = e.2.1 ∧ x = e.1)) : ts.findIdx? (isTie u x) = some i := by
  obtain ⟨il, ei⟩ := List.getElem?_eq_some_iff.mp hi
  rw [List.findIdx?_eq_some_iff_getElem]
  refine ⟨il, ?_, fun j hj => ?_⟩
  · rw [ei]
    refine isTie_iff.mpr ?_
    rcases hu with ⟨a, b⟩ | ⟨a, b⟩
    · exact .inl ⟨a.symm, b.symm⟩
    · exact .inr ⟨b.symm, a.symm⟩
  · intro z
    have := List.pairwise_iff_getElem.mp h.apart j i (by omega) il hj
    rw [ei] at this
    refine this ?_
    rcases isTie_iff.mp z with ⟨a, b⟩ | ⟨a, b⟩ <;> rcases hu with ⟨c, d⟩ | ⟨c, d⟩
    · exact .inl ⟨a.trans c, b.trans d⟩
    · exact .inr ⟨a.trans c, b.trans d⟩
    · exact .inr ⟨a.trans d, b.trans c⟩
    · exact .inl ⟨a.trans d, b.trans c⟩
end Far

namespace Far
open PySem PySem.Spec PyProof.Rows L2
open C8 (pss_cut tCut)
open SX (S)
open PySem.Builtin PySem.Builtin.Str in
theorem idx_low {n : Nat} {i : Int} (h : i + n ≤ 0) (h0 : i < 0) : strSliceIndices (some i) none 1 n = strSliceIndices (some 0) none 1 n := by
  have h2 : (1 : Int) > 0 := by decide
  have h3 : ¬ ((0 : Int) < 0) := by decide
  simp only [strSliceIndices, h0, h2, h3, if_false, if_true]
  rw [show max (0 : Int) (min (i + n) n) = max (0 : Int) (min (0 : Int) (n : Int)) by omega]
open PySem.Builtin PySem.Builtin.Str in
theorem slice_end8 (a : List Nat) : Txt.slice (S a) (some (-8)) none = S (a.drop (a.length - 8)) := by
  have hl : ((S a).length : Int) = (a.length : Int) := by rw [SX.S_len]
  by_cases h : a.length ≤ 8
  · have e2 : Txt.slice (S a) (some (-8)) none = Txt.slice (S a) (some 0) none := by
      unfold Txt.slice
      rw [SX.S_len, idx_low (by omega) (by decide)]
    rw [e2, SX.slice_from (by decide), show a.length - 8 = 0 by omega]
    rfl
  · have e := beq_iff_eq.mp (PyProof.Rows.slice_closes_from_neg (x := S a) (i := -8) (a := (a.length : Int) - 8) (b := (a.length : Int)) (by omega) (by omega) (by omega) (by omega))
    refine e.trans (TL.ext_tl ?_)
    show (a.drop ((a.length : Int) - 8).toNat).take ((a.length : Int) - ((a.length : Int) - 8)).toNat = a.drop (a.length - 8)
    rw [show ((a.length : Int) - 8).toNat = a.length - 8 by omega]
    exact List.take_of_length_le (by rw [List.length_drop]; omega)
theorem names_about {l : Nm} {r : Int} {g : Nat} (ok : NameOk l) (r0 : 0 ≤ r) (r1 : r < l.length) (og : 97 ≤ g ∧ g ≤ 122) : NameOk (l.take r.toNat ++ [g] ++ l.drop (r + 1).toNat) ∧ NameOk ((l ++ [g]).drop ((l ++ [g]).length - 8)) := by
  obtain ⟨h1, h8, hc⟩ := ok
  refine ⟨⟨?_, ?_, fun x hx => ?_⟩, ⟨?_, ?_, fun x hx => ?_⟩⟩
  · simp
    omega
  · simp
    omega
  · rcases List.mem_append.mp hx with z | z
    · rcases List.mem_append.mp z with z | z
      · exact hc x (List.mem_of_mem_take z)
      · rw [List.mem_singleton.mp z]
        exact og
    · exact hc x (List.mem_of_mem_drop z)
  · rw [List.length_drop, List.length_append, List.length_singleton]
    omega
  · rw [List.length_drop, List.length_append, List.length_singleton]
    omega
  · rcases List.mem_append.mp (List.mem_of_mem_drop hx) with z | z
    · exact hc x z
    · rw [List.mem_singleton.mp z]
      exact og
theorem TupAt.tk {H H' : Hp} {a : Addr} {xs : List V} (h : TupAt H a xs) (s : TK H H') : TupAt H' a xs := h.elim (fun h => .inl (s.tup _ _ h)) fun ⟨o, d, h⟩ => .inr ⟨o, d, s.frz _ _ _ h⟩
/-! ### a fresh name -/
theorem b8_is : ("bbbbbbbb" : Str) = S (List.replicate 8 98) := by decide +kernel
def sixB (l : List Nat) : List Nat := (l ++ List.replicate 8 98).take 6
theorem sixB_len (l : List Nat) : (sixB l).length = 6 := by
  unfold sixB
  rw [List.length_take, List.length_append, List.length_replicate]
  omega
theorem sixB_ok {l : List Nat} (h : NameOk l) : ∀ c ∈ sixB l, 97 ≤ c ∧ c ≤ 122 := fun c hc => by
  have := List.mem_of_mem_take hc
  rcases List.mem_append.mp this with z | z
  · exact h.2.2 c z
  · rw [List.eq_of_mem_replicate z]
    omega
theorem sixB_cand {q : List Nat} (hq : q.length = 6) (j : Nat) : sixB (cand q j) = q := by
  unfold sixB cand
  rw [List.append_assoc, List.append_assoc, ← hq]
  simp
structure TriedB (ls : List (List Nat)) (t : Nat) (l : List Nat) : Prop where
  ok : NameOk l
  last : t ≠ 0 → l = cand (sixB l) (t - 1)
  old : ∀ j, j + 1 < t → cand (sixB l) j ∈ ls
theorem TriedB.lt {ls : List (List Nat)} {t : Nat} {l : List Nat} (h : TriedB ls t l) (hl : l ∈ ls) : t ≤ ls.length := by
  have sub : ∀ x ∈ (List.range t).map (cand (sixB l)), x ∈ ls := fun x hx => by
    obtain ⟨j, hj, rfl⟩ := List.mem_map.mp hx
    have hj := List.mem_range.mp hj
    by_cases e : j + 1 < t
    · exact h.old j e
    · have e2 : j = t - 1 := by omega
      rw [e2, ← h.last (by omega)]
      exact hl
  have nd : ((List.range t).map (cand (sixB l))).Nodup := by
    rw [List.Nodup, List.pairwise_map]
    exact (List.nodup_range (n := t)).imp fun ne e => ne (cand_inj e)
  have := nodup_sub_len _ ls nd sub
  rw [List.length_map, List.length_range] at this
  exact this
theorem TriedB.next {ls : List (List Nat)} {t : Nat} {l : List Nat} (h : TriedB ls t l) (hl : l ∈ ls) (h30 : ls.length < 90) : TriedB ls (t + 1) (cand (sixB l) t) := by
  have hlt := h.lt hl
  have e6 := sixB_cand (sixB_len l) t
  refine ⟨cand_ok (sixB_len l) (sixB_ok h.ok) (by omega), fun _ => by rw [e6]; rfl, fun j hj => ?_⟩
  rw [e6]
  by_cases e : j + 1 < t
  · exact h.old j e
  · have e2 : j = t - 1 := by omega
    rw [e2, ← h.last (by omega)]
    exact hl
abbrev s_law_fresh : Stmt := topS 41
abbrev N_law_fresh : List Str := ["deck", "places", "name", "at", "sign", "some", "turn", "ten"]
theorem sc_law_fresh : FnScope N_law_fresh ["deck", "places"] (defScope s_law_fresh) := ⟨rfl, rfl, rfl, by decide +kernel, rfl, by decide +kernel, by decide +kernel⟩
section
variable {P : Program} {w : World} {K : PySem.W.Frag} {mg : Str → Option Value} {base : Heap}
def spFresh : Sp := fun vs H Q _ => ∃ (d c b : Addr) (n : Nat) (pl : List Nm), vs = [.ref d, .ref b] ∧ TupAt H b ((pl.map S).map V.str) ∧ DeckAt H d c n ∧ n < 60000 ∧ 0 < pl.length ∧ pl.length ≤ 40 ∧ (∀ l ∈ pl, NameOk l) ∧ ∀ (H' : Hp) (l : Nm), NameOk l → l ∉ pl → SmX d H H' → DeckAt H' d c (n + 40) → Q (.str (S l)) H'
theorem ok_fresh {f : Addr} {fd : FuncData} (F : Fun K "_law_fresh" "_law_fresh" s_law_fresh f fd) (T : Txt mg) (C_law_next : Cal P w K mg base 2 "_law_next" spNext) (C_law_name : Cal P w K mg base 3 "_law_name" spName) : FnOk P w K mg base CX0 4 f fd ["deck", "places"] spFresh := by
  refine F.ok sc_law_fresh (fun vs H Q E h => ?_) (fun cdv A outer s H vs Q E hr h => ?_)
  · obtain ⟨d, c, b, n, pl, rfl, _⟩ := h
    rfl
  · obtain ⟨d, c, b, n, pl, rfl, hb, DD, hn, plp, p30, ok, q⟩ := h
    refine ⟨_, (pss_cons (ps_set (i := 2) sc_law_fresh.nd rfl (.inl rfl) (pe_ix ix_tup (pv 1) (pe_c C_law_next hr (by decide) rfl (pa_cons (pv 0) (pa_cons (pe_callB call_len_seq (by rfl) T.len bt_len (pa_cons (pv 1) pa_nil)) pa_nil))) (fun _ _ => rfl)))
      (pss_cons (ps_set (i := 3) sc_law_fresh.nd rfl (.inl rfl) (pe_c C_law_next hr (by decide) rfl (pa_cons (pv 0) (pa_cons (pe_callB call_len (by rfl) T.len bt_len (pa_cons (pv 2) pa_nil)) pa_nil))))
      (pss_cons (ps_set (i := 4) sc_law_fresh.nd rfl (.inl rfl) (pe_ix ix_str pe_str (pe_c C_law_next hr (by decide) rfl (pa_cons (pv 0) (pa_cons pe_int pa_nil))) (fun _ _ => rfl)))
      (pss_cons (ps_set (i := 5) sc_law_fresh.nd rfl (.inl rfl) (pe_lst (pa_cons (pe_op op_add_str (pe_op op_add_str (pe_slice C8.sl_txt (pv 2) po_none (po_some (pv 3))) (pv 4)) (pe_slice C8.sl_txt (pv 2) (po_some (pe_op op_add (pv 3) pe_int)) po_none)) (pa_cons (pe_slice C8.sl_txt (pe_op op_add_str (pv 2) (pv 4)) (po_some (pe_un un_neg pe_int)) po_none) (pa_cons (pe_c C_law_name hr (by decide) rfl (pa_cons (pv 0) pa_nil)) (pa_cons (pe_c C_law_name hr (by decide) rfl (pa_cons (pv 0) pa_nil)) pa_nil))))))
      (pss_cons (ps_set (i := 2) sc_law_fresh.nd rfl (.inl rfl) (pe_ix ix_list (pv 5) (pe_c C_law_next hr (by decide) rfl (pa_cons (pv 0) (pa_cons pe_int pa_nil))) (fun _ _ => rfl)))
      (pss_cons (ps_set (i := 6) sc_law_fresh.nd rfl (.inl rfl) pe_int)
      (pss_cut (ps_while PassesOwn.never (pt_cmpR op_in_seq (pv 2) (pv 1) rfl)
        (pss_cons (ps_set (i := 7) sc_law_fresh.nd rfl (.inl rfl) (pe_ix ix_str pe_str (pe_op op_fdiv (pv 6) pe_int) (fun _ _ => rfl)))
        (pss_cons (ps_set (i := 2) sc_law_fresh.nd rfl (.inl rfl) (pe_op op_add_str (pe_op op_add_str (pe_slice C8.sl_txt (pe_op op_add_str (pv 2) pe_str) po_none (po_some pe_int)) (pv 7)) (pe_ix ix_str pe_str (pe_op op_mod (pv 6) pe_int) (fun _ _ => rfl))))
        (pss_one (ps_set (i := 6) sc_law_fresh.nd rfl (.inl rfl) (pe_op op_add (pv 6) pe_int))))))
      (pss_one (ps_ret (pv 2)))))))))), ?_⟩
    refine ⟨_, rfl, _, rfl, _, rfl, b, _, rfl, .inr hb.sq, d, c, _, pl.length, by rw [List.length_map, List.length_map]; rfl, DD, by omega, by omega, by omega, fun H1 r r0 r1 S1 D1 => ?_⟩
    have hb1 := hb.tk (DD.tk S1)
    obtain ⟨jj, rfl⟩ : ∃ jj : Nat, r = jj := ⟨r.toNat, by omega⟩
    have jl : jj < pl.length := by omega
    refine ⟨b, _, jj, .str (S pl[jj]), rfl, rfl, hb1.sq, atI_nat (j := jj) (by simp [jl]), ?_⟩
    have oku := ok pl[jj] (List.getElem_mem _)
    generalize pl[jj] = u at oku
    have u8 := oku.2.1
    have u1 := oku.1
    refine ⟨_, rfl, _, rfl, .str (S u), u.length, rfl, ⟨by rw [SX.S_len]; exact sz_le (by omega), (SX.S_len _).symm⟩, d, c, _, _, rfl, D1, by omega, by omega, by omega, fun H2 r5 r50 r51 S2 D2 => ?_⟩
    refine ⟨_, rfl, d, c, _, 26, rfl, D2, by omega, by decide, by decide, fun H3 r6 r60 r61 S3 D3 => ?_⟩
    have hb3 := (hb1.tk (D1.tk S2)).tk (D2.tk S3)
    have SM3 := (S1.trans S2).trans S3
    obtain ⟨sg, hsg, msg⟩ := atI_in (xs := ("abcdefghijklmnopqrstuvwxyz" : Str).cps.toList) r60 (by
      have : ("abcdefghijklmnopqrstuvwxyz" : Str).cps.toList.length = 26 := by decide +kernel
      omega)
    have oks := abc_ok sg msg
    refine ⟨("abcdefghijklmnopqrstuvwxyz" : Str), r6, sg, rfl, rfl, by decide, hsg, ?_⟩
    obtain ⟨n1, n2⟩ := names_about oku r50 (by omega) oks
    refine ⟨_, rfl, _, rfl, r5, rfl, S u, rfl, by rw [SX.S_len]; exact sz_le (by omega), _, rfl, S (u.take r5.toNat), S [sg], congrArg V.str (SX.slice_to r50), rfl, by rw [SX.S_len, SX.S_len, List.length_take, List.length_singleton]; exact sz_le (by omega),
      _, rfl, _, rfl, r5, 1, rfl, rfl, r5 + 1, rfl, S u, rfl, by rw [SX.S_len]; exact sz_le (by omega), S (u.take r5.toNat ++ [sg]), S (u.drop (r5 + 1).toNat), congrArg V.str (SX.S_cat _ _), congrArg V.str (SX.slice_from (by omega)), by rw [SX.S_len, SX.S_len, List.length_append, List.length_take, List.length_drop, List.length_singleton]; exact sz_le (by omega),
      _, rfl, _, rfl, S u, S [sg], rfl, rfl, by rw [SX.S_len, SX.S_len, List.length_singleton]; exact sz_le (by omega), 8, rfl, -8, rfl, S (u ++ [sg]), congrArg V.str (SX.S_cat _ _), by rw [SX.S_len, List.length_append, List.length_singleton]; exact sz_le (by omega), ?_⟩
    refine ⟨_, rfl, d, c, _, rfl, D3, by omega, fun H4 l4 n4 S4 D4 => ?_⟩
    refine ⟨_, rfl, d, c, _, rfl, D4, by omega, fun H5 l5 n5 S5 D5 => ?_⟩
    have SM5 := (SM3.trans S4).trans S5
    have hb5 := (hb3.tk (D3.tk S4)).tk (D4.tk S5)
    rw [SX.S_cat, slice_end8]
    refine ⟨(by show 4 ≤ sizeLine; decide), fun p7 np7 => ?_⟩
    have D6 := (D5.new (o := .lst [V.str (S (u.take r5.toNat ++ [sg] ++ u.drop (r5 + 1).toNat)), .str (S ((u ++ [sg]).drop ((u ++ [sg]).length - 8))), .str (S l4), .str (S l5)]) np7)
    refine ⟨_, rfl, _, rfl, d, c, _, 4, rfl, D6, by omega, by decide, by decide, fun H7 r7 r70 r71 S7 D7 => ?_⟩
    have h7 := S7 p7 _ (D5.nd np7) upd_same
    have SM7 := (SM5.new (o := .lst [V.str (S (u.take r5.toNat ++ [sg] ++ u.drop (r5 + 1).toNat)), .str (S ((u ++ [sg]).drop ((u ++ [sg]).length - 8))), .str (S l4), .str (S l5)]) np7).trans S7
    have hb7 := (hb5.upd (o := .lst [V.str (S (u.take r5.toNat ++ [sg] ++ u.drop (r5 + 1).toNat)), .str (S ((u ++ [sg]).drop ((u ++ [sg]).length - 8))), .str (S l4), .str (S l5)]) np7).tk (D6.tk S7)
    obtain ⟨v, hv, mv⟩ := atI_in (xs := [V.str (S (u.take r5.toNat ++ [sg] ++ u.drop (r5 + 1).toNat)), .str (S ((u ++ [sg]).drop ((u ++ [sg]).length - 8))), .str (S l4), .str (S l5)]) r70 (by simpa using r71)
    obtain ⟨l, rfl, lok⟩ : ∃ l : Nm, v = .str (S l) ∧ NameOk l := by
      simp only [List.mem_cons, List.not_mem_nil, or_false] at mv
      rcases mv with e | e | e | e
      · exact ⟨_, e, n1⟩
      · exact ⟨_, e, n2⟩
      · exact ⟨_, e, n4⟩
      · exact ⟨_, e, n5⟩
    refine ⟨p7, _, r7, _, rfl, rfl, SqL.of h7, hv, ?_⟩
    -- the loop
    refine ⟨fun σ' H'' => ∃ (l : List Nat) (x3 x4 x5 x6 x7 : Option V), σ' = [some (.ref d), some (.ref b), some (.str (S l)), x3, x4, x5, x6, x7] ∧ NameOk l ∧ l ∉ pl ∧ H'' = H7, ?_, fun σ' H'' hM => ?_⟩
    · refine ⟨fun m σ' H'' => ∃ (l : List Nat) (t : Nat) (x3 x4 x5 x7 : Option V), σ' = [some (.ref d), some (.ref b), some (.str (S l)), x3, x4, x5, some (.int t), x7] ∧ H'' = H7 ∧ TriedB pl t l ∧ t + m = 100, ⟨100, l, 0, _, _, _, _, rfl, rfl, ⟨lok, fun z => absurd rfl z, fun j hj => absurd hj (by omega)⟩, rfl⟩, ?_⟩
      rintro m' σ2 H4 ⟨l, t, x3, x4, x5, x7, rfl, rfl, tr, em⟩
      refine ⟨_, rfl, _, rfl, b, _, rfl, .inr hb7.sq, rfl, flat_strs pl, _, rfl, ?_⟩
      rw [inV_strs]
      refine ite2 (fun e2 => ?_) (fun e2 => ?_)
      · have hin : l ∈ pl := of_decide_eq_true e2
        have tl := tr.lt hin
        have nx := tr.next hin (by omega)
        refine ⟨fun σ' H'' => ∃ (l : List Nat) (t' : Nat) (x3 x4 x5 x7 : Option V), σ' = [some (.ref d), some (.ref b), some (.str (S l)), x3, x4, x5, some (.int t'), x7] ∧ H'' = H4 ∧ TriedB pl t' l ∧ t' = t + 1, ?_, ?_⟩
        · rintro σ' H'' ⟨l', t', y3, y4, y5, y7, e1, e2', e3, e4⟩
          exact ⟨m' - 1, by omega, l', t', y3, y4, y5, y7, e1, e2', e3, by omega⟩
        have et : (t : Int) / 10 = (((t / 10 : Nat)) : Int) := by omega
        have em' : (t : Int) % 10 = (((t % 10 : Nat)) : Int) := by omega
        have a1 : atI ("abcdefghij" : Str).cps.toList ((t : Int) / 10) = some (97 + t / 10) := by
          rw [et]
          exact ten_at ⟨t / 10, by omega⟩
        have a2 : atI ("abcdefghij" : Str).cps.toList ((t : Int) % 10) = some (97 + t % 10) := by
          rw [em']
          exact ten_at ⟨t % 10, by omega⟩
        have l8 := tr.ok.2.1
        have s6 := sixB_len l
        refine ⟨_, rfl, _, _, rfl, rfl, ⟨by decide, by decide⟩, ("abcdefghij" : Str), (t : Int) / 10, _, rfl, rfl, by decide, a1, ?_⟩
        refine ⟨_, rfl, S l, S (List.replicate 8 98), rfl, congrArg V.str b8_is, by rw [SX.S_len, SX.S_len, List.length_replicate]; exact sz_le (by omega), 6, rfl, S (l ++ List.replicate 8 98), congrArg V.str (SX.S_cat _ _), by rw [SX.S_len, List.length_append, List.length_replicate]; exact sz_le (by omega),
          _, rfl, S (sixB l), S [97 + t / 10], congrArg V.str (SX.slice_to (by decide)), rfl, by rw [SX.S_len, SX.S_len, s6]; exact sz_le (by simp), _, rfl, _, _, rfl, rfl, (by show (0 : Int) < _; decide), ("abcdefghij" : Str), (t : Int) % 10, _, rfl, rfl, by decide, a2,
          S (sixB l ++ [97 + t / 10]), S [97 + t % 10], congrArg V.str (SX.S_cat _ _), rfl, by rw [SX.S_len, SX.S_len, List.length_append, s6]; exact sz_le (by simp), ?_⟩
        refine ⟨_, rfl, _, _, rfl, rfl, ?_⟩
        refine ⟨cand (sixB l) t, t + 1, x3, x4, x5, some (.str (S [97 + t / 10])), ?_, rfl, nx, rfl⟩
        show [some (V.ref d), some (V.ref b), some (V.str (S (sixB l ++ [97 + t / 10]) ++ S [97 + t % 10])), x3, x4, x5, some (V.int ((t : Int) + 1)), some (V.str (S [97 + t / 10]))] = _
        rw [SX.S_cat]
        rfl
      · exact ⟨l, _, _, _, _, _, rfl, tr.ok, fun z => e2 (decide_eq_true z), rfl⟩
    · obtain ⟨l, x3, x4, x5, x6, x7, rfl, lok, nin, rfl⟩ := hM
      exact ⟨_, rfl, q _ l lok nin SM7 (D7.mono (by omega))⟩
end
abbrev s_law_leaves : Stmt := topS 40
abbrev N_law_leaves : List Str := ["tree", "ends", "name", "tie"]
theorem sc_law_leaves : FnScope N_law_leaves ["tree"] (defScope s_law_leaves) := ⟨rfl, rfl, rfl, by decide +kernel, rfl, by decide +kernel, by decide +kernel⟩
abbrev s_law_length : Stmt := topS 42
abbrev N_law_length : List Str := ["deck", "some"]
theorem sc_law_length : FnScope N_law_length ["deck"] (defScope s_law_length) := ⟨rfl, rfl, rfl, by decide +kernel, rfl, by decide +kernel, by decide +kernel⟩
section
variable {P : Program} {w : World} {K : PySem.W.Frag} {mg : Str → Option Value} {base : Heap}
def spLLeaves : Sp := fun vs H Q _ => ∃ (v : V) (pl : List Nm) (ts : List Tie), vs = [v] ∧ Dt H v (treeD pl ts) ∧ pl.length ≤ 1000 ∧ ts.length ≤ 1000 ∧ ∀ (H' : Hp) (q : Addr), Same H H' → H q = none → H' q = some (.lst (((leavesOf pl ts).map S).map V.str)) → Q (.ref q) H'
theorem ok_lleaves {f : Addr} {fd : FuncData} (F : Fun K "_law_leaves" "_law_leaves" s_law_leaves f fd) : FnOk P w K mg base CX0 1 f fd ["tree"] spLLeaves := by
  refine F.ok sc_law_leaves (fun vs H Q E h => ?_) (fun cdv A outer s H vs Q E hr h => ?_)
  · obtain ⟨v, pl, ts, rfl, _⟩ := h
    rfl
  · obtain ⟨v, pl, ts, rfl, hd, l1, l2, q⟩ := h
    obtain ⟨t, a, b, vs, rfl, ht, ha, hb, hA⟩ := dt_tree hd
    have vl : vs.length = ts.length := by
      have := DtAll.len hA
      rwa [List.length_map] at this
    refine ⟨_, (pss_cons (ps_set (i := 1) sc_law_leaves.nd rfl (.inr rfl) (pe_op op_cat (pe_lc (own := [("tie", 3)]) (g := gName 3) (tt := tYes) rfl sc_law_leaves.nd (pi_tup (pe_ix ix_tup (pv 0) pe_int (fun _ _ => rfl))) (blkOk_by (N := N_law_leaves) (sc := defScope s_law_leaves) (by decide +kernel)) (fun _ _ _ _ _ => pg_name (i := 3) sc_law_leaves.nd rfl (Or.inl rfl)) (fun _ _ _ _ _ => pts_nil) (fun _ _ _ _ _ => (pe_ix (ixt (K := K)) (pv 3) pe_int (fun _ _ => rfl)))) (pe_lc (own := [("tie", 3)]) (g := gName 3) (tt := tYes) rfl sc_law_leaves.nd (pi_tup (pe_ix ix_tup (pv 0) pe_int (fun _ _ => rfl))) (blkOk_by (N := N_law_leaves) (sc := defScope s_law_leaves) (by decide +kernel)) (fun _ _ _ _ _ => pg_name (i := 3) sc_law_leaves.nd rfl (Or.inl rfl)) (fun _ _ _ _ _ => pts_nil) (fun _ _ _ _ _ => (pe_ix (ixt (K := K)) (pv 3) pe_int (fun _ _ => rfl))))))
      (pss_one (ps_ret (pe_lc (own := [("name", 2)]) (g := gName 2)  rfl sc_law_leaves.nd (pi_tup (pe_ix ix_tup (pv 0) pe_int (fun _ _ => rfl))) (blkOk_by (N := N_law_leaves) (sc := defScope s_law_leaves) (by decide +kernel)) (fun _ _ _ _ _ => pg_name (i := 2) sc_law_leaves.nd rfl (Or.inl rfl)) (fun _ _ _ _ _ => pts_one (pt_cmpR op_eq (show PE _ _ (tBM K "list" (rCountV K) _ _) from pe_bm PySem.F.plainAttrs_list PySem.F.slot_list_count PySem.F.type_list_count (mt_countV (K := K)) (pv 1) (pa_cons (pv 2) pa_nil)) pe_int (nomark _))) (fun _ _ _ _ _ => (pv 2)))))), ?_⟩
    refine ⟨_, rfl, t, _, 1, .ref b, rfl, rfl, SqT.of ht, atI_nat (j := 1) rfl, b, rfl, ⟨_, SqT.of hb⟩, fun D nD => ?_⟩
    refine lc_tup (K := K) (a := b) (xs := vs) (fun i H' => Same H H' ∧ H' D = some (.lst ((((ts.take i).map (·.1)).map S).map V.str))) ⟨same_new (Same.refl H) nD, upd_same⟩ (fun i H' _ hP => SqT.of (hP.1 _ _ hb)) (fun i v H' hi hP => ?_) (fun H' hP => ?_)
    · obtain ⟨SM, hD⟩ := hP
      obtain ⟨t3, p3, ht3, rfl, hp3⟩ := tie_at (DtAll.keep (TK.of SM) hA) hi
      have il := (List.getElem?_eq_some_iff.mp ht3).1
      refine ⟨rfl, _, rfl, p3, _, 0, _, rfl, rfl, SqT.of hp3, atI_nat (j := 0) rfl, _, hD, by rw [List.length_map, List.length_map, List.length_map, List.length_take]; exact sz_lt (by omega), same_put SM nD, ?_⟩
      rw [upd_same, List.take_add_one, ht3, List.map_append, List.map_append, List.map_append]
      rfl
    obtain ⟨S1, hD⟩ := hP
    rw [List.take_of_length_le (by omega)] at hD
    refine ⟨_, rfl, t, _, 1, .ref b, rfl, rfl, SqT.of (S1 _ _ ht), atI_nat (j := 1) rfl, b, rfl, ⟨_, SqT.of (S1 _ _ hb)⟩, fun G nG => ?_⟩
    have DG : D ≠ G := ne_of_none hD nG
    refine lc_tup (K := K) (a := b) (xs := vs) (fun i H' => Same H H' ∧ H' D = some (.lst (((ts.map (·.1)).map S).map V.str)) ∧ H' G = some (.lst ((((ts.take i).map (·.2.1)).map S).map V.str))) ⟨same_new S1 nG, by rw [upd_ne DG]; exact hD, upd_same⟩ (fun i H' _ hP => SqT.of (hP.1 _ _ hb)) (fun i v H' hi hP => ?_) (fun H' hP => ?_)
    · obtain ⟨SM, hD, hG⟩ := hP
      obtain ⟨t3, p3, ht3, rfl, hp3⟩ := tie_at (DtAll.keep (TK.of SM) hA) hi
      have il := (List.getElem?_eq_some_iff.mp ht3).1
      refine ⟨rfl, _, rfl, p3, _, 1, _, rfl, rfl, SqT.of hp3, atI_nat (j := 1) rfl, _, hG, by rw [List.length_map, List.length_map, List.length_map, List.length_take]; exact sz_lt (by omega), same_put SM (S1.free nG), by rw [upd_ne DG]; exact hD, ?_⟩
      rw [upd_same, List.take_add_one, ht3, List.map_append, List.map_append, List.map_append]
      rfl
    obtain ⟨S2, hD2, hG⟩ := hP
    rw [List.take_of_length_le (by omega)] at hG
    refine ⟨D, G, _, _, rfl, rfl, hD2, hG, by rw [List.length_map, List.length_map, List.length_map, List.length_map, List.length_map, List.length_map]; exact sz_le (by omega), fun e ne => ?_⟩
    have S3 := same_new (o := .lst (((ts.map (·.1)).map S).map V.str ++ ((ts.map (·.2.1)).map S).map V.str)) S2 ne
    have he : (upd H' e (.lst (((ts.map (·.1)).map S).map V.str ++ ((ts.map (·.2.1)).map S).map V.str))) e = some (.lst (((ts.map (·.1) ++ ts.map (·.2.1)).map S).map V.str)) := by
      rw [upd_same, List.map_append, List.map_append]
    generalize upd H' e (.lst (((ts.map (·.1)).map S).map V.str ++ ((ts.map (·.2.1)).map S).map V.str)) = H3 at S3 he
    refine ⟨_, rfl, t, _, 0, .ref a, rfl, rfl, SqT.of (S3 _ _ ht), atI_nat (j := 0) rfl, a, rfl, ⟨_, (ha.same S3).sq⟩, fun B nB => ?_⟩
    have eB : e ≠ B := ne_of_none he nB
    refine lc_tup (K := K) (a := a) (xs := (pl.map S).map V.str) (fun i H'' => Same H H'' ∧ H'' e = some (.lst (((ts.map (·.1) ++ ts.map (·.2.1)).map S).map V.str)) ∧ H'' B = some (.lst (((leavesOf (pl.take i) ts).map S).map V.str))) ⟨same_new S3 nB, by rw [upd_ne eB]; exact he, upd_same⟩ (fun i H'' _ hP => (ha.same hP.1).sq) (fun i v H'' hi hP => ?_) (fun H'' hP => ?_)
    · obtain ⟨S4, he4, hB⟩ := hP
      obtain ⟨x, hx, mx, rfl, ex⟩ := at_name hi
      have il := (List.getElem?_eq_some_iff.mp hx).1
      refine ⟨rfl, _, rfl, .inl ⟨rfl, _, SqL.of he4⟩, _, rfl, e, _, _, rfl, rfl, SqL.of he4, rfl, flat_strs _, rfl, _, rfl, ?_⟩
      rw [count_S, List.countP_append]
      have gl : (leavesOf (pl.take i) ts).length ≤ 1000 := by
        unfold leavesOf
        have := List.length_filter_le (fun x => decide (deg ts x = 1)) (pl.take i)
        rw [List.length_take] at this
        omega
      have ed : (ts.map (·.1)).countP (fun z => decide (z = x)) + (ts.map (·.2.1)).countP (fun z => decide (z = x)) = deg ts x := rfl
      rw [ed]
      by_cases c : deg ts x = 1
      · rw [c]
        refine iteT ⟨_, rfl, _, hB, by rw [List.length_map, List.length_map]; exact sz_lt (by omega), same_put S4 (S3.free nB), by rw [upd_ne eB]; exact he4, ?_⟩
        rw [upd_same, ex]
        unfold leavesOf
        rw [List.filter_append, List.filter_cons_of_pos (by simp [c]), List.map_append, List.map_append]
        rfl
      · rw [decide_eq_false (fun z => c (by have := V.int.inj z; omega))]
        refine iteF ⟨S4, he4, ?_⟩
        rw [ex]
        unfold leavesOf at *
        rw [List.filter_append, List.filter_cons_of_neg (by simp [c])]
        simpa using hB
    · obtain ⟨S4, he4, hB⟩ := hP
      rw [List.length_map, List.length_map, List.take_length] at hB
      exact q _ B S4 (S3.free nB) hB
def spLLen : Sp := fun vs H Q _ => ∃ (d c : Addr) (n : Nat), vs = [.ref d] ∧ DeckAt H d c n ∧ n < 90000 ∧ ∀ (H' : Hp) (r : Int), 1 ≤ r → r ≤ 1000000 → SmX d H H' → DeckAt H' d c (n + 3) → Q (.int r) H'
theorem ok_llen {f : Addr} {fd : FuncData} (F : Fun K "_law_length" "_law_length" s_law_length f fd) (T : Txt mg) (C_law_next : Cal P w K mg base 2 "_law_next" spNext) : FnOk P w K mg base CX0 3 f fd ["deck"] spLLen := by
  refine F.ok sc_law_length (fun vs H Q E h => ?_) (fun cdv A outer s H vs Q E hr h => ?_)
  · obtain ⟨d, c, n, rfl, _⟩ := h
    rfl
  · obtain ⟨d, c, n, rfl, DD, hn, q⟩ := h
    have e6 : (10 : Int) ^ (6 : Int).toNat = 1000000 := by decide
    refine ⟨_, (pss_cons (ps_set (i := 1) sc_law_length.nd rfl (.inl rfl) (pe_lst (pa_cons pe_int (pa_cons (pe_c C_law_next hr (by decide) rfl (pa_cons (pv 0) (pa_cons pe_int pa_nil))) (pa_cons (pe_c C_law_next hr (by decide) rfl (pa_cons (pv 0) (pa_cons (pe_op op_pow pe_int pe_int) pa_nil))) (pa_cons (pe_op op_sub (pe_op op_pow pe_int pe_int) pe_int) pa_nil))))))
      (pss_one (ps_ret (pe_op op_add pe_int (pe_ix ix_list (pv 1) (pe_c C_law_next hr (by decide) rfl (pa_cons (pv 0) (pa_cons pe_int pa_nil))) (fun _ _ => rfl)))))), ?_⟩
    refine ⟨_, rfl, d, c, n, 9, rfl, DD, by omega, by decide, by decide, fun H1 r1 a0 a1 S1 D1 => ?_⟩
    refine ⟨_, rfl, _, _, rfl, rfl, ⟨by decide, by decide, by decide⟩, d, c, _, _, rfl, D1, by omega, by decide, by decide, fun H2 r2 b0 b1 S2 D2 => ?_⟩
    refine ⟨_, _, rfl, rfl, ⟨by decide, by decide, by decide⟩, _, _, rfl, rfl, (by show 4 ≤ sizeLine; decide), fun p np => ?_⟩
    rw [e6] at b1
    have D3 := D2.new (o := .lst [V.int 0, .int r1, .int r2, .int (10 ^ (6 : Int).toNat - 1)]) np
    refine ⟨_, rfl, _, rfl, d, c, _, 4, rfl, D3, by omega, by decide, by decide, fun H4 r4 c0 c1 S4 D4 => ?_⟩
    have hp := S4 p _ (D2.nd np) upd_same
    obtain ⟨v, hv, mv⟩ := atI_in (xs := [V.int 0, .int r1, .int r2, .int (10 ^ (6 : Int).toNat - 1)]) c0 (by simpa using c1)
    obtain ⟨m, rfl, m0, m1⟩ : ∃ m : Int, v = .int m ∧ 0 ≤ m ∧ m < 1000000 := by
      rw [e6] at mv
      simp only [List.mem_cons, List.not_mem_nil, or_false] at mv
      rcases mv with e | e | e | e
      · exact ⟨0, e, by omega, by omega⟩
      · exact ⟨r1, e, by omega, by omega⟩
      · exact ⟨r2, e, by omega, by omega⟩
      · exact ⟨999999, e, by omega, by omega⟩
    refine ⟨p, _, r4, _, rfl, rfl, SqL.of hp, hv, _, _, rfl, rfl, ?_⟩
    exact q _ (1 + m) (by omega) (by omega) (((S1.trans S2).new np).trans S4) (D4.mono (by omega))
end
end Far

namespace Far
open PySem PySem.Spec PyProof.Rows L2
open C8 (pss_cut tCut)
open SX (S)
theorem via {B : Hp → Prop} {R : Prop} (p : Hp → Prop) (h1 : (∀ H2, p H2 → B H2) → R) (h2 : ∀ H2, p H2 → B H2) : R := h1 h2
theorem no_tree {v : V} {m : Str} (h : (m == ("_tree" : Str)) = false) : ([("_tree", v)] : List (Str × V)).lookup m = none := by
  simp [List.lookup, h]
theorem DeckAt.same {H H' : Hp} {d c : Addr} {n : Nat} (h : DeckAt H d c n) (s : Same H H') : DeckAt H' d c n := by
  obtain ⟨cs, i, l, m, z, h1, h2, h3⟩ := h
  exact ⟨cs, i, l, m, z, s _ _ h1, s _ _ h2, h3⟩
theorem DeckAt.smx {H H' : Hp} {d c p : Addr} {n : Nat} (h : DeckAt H d c n) (s : SmX p H H') (nd : d ≠ p) (nc : c ≠ p) : DeckAt H' d c n := by
  obtain ⟨cs, i, l, m, z, h1, h2, h3⟩ := h
  exact ⟨cs, i, l, m, z, s _ _ nd h1, s _ _ nc h2, h3⟩
/-- all stands but for the deck and the kept tree -/
def SmD (d p : Addr) (H H' : Hp) : Prop := ∀ b o, b ≠ d → b ≠ p → H b = some o → H' b = some o
theorem SmD.of {d p : Addr} {H H' : Hp} (s : SmX d H H') : SmD d p H H' := fun b o h _ e => s b o h e
theorem SmD.of2 {d p : Addr} {H H' : Hp} (s : SmX p H H') : SmD d p H H' := fun b o _ h e => s b o h e
theorem SmD.trans {d p : Addr} {H H1 H2 : Hp} (a : SmD d p H H1) (b : SmD d p H1 H2) : SmD d p H H2 := fun x o h1 h2 e => b x o h1 h2 (a x o h1 h2 e)
theorem KeptAt.nd {C : Addr} {H : Hp} {p d c : Addr} {n : Nat} {pl : List Nm} {ts : List Tie} (h : KeptAt C H p pl ts) (D : DeckAt H d c n) : d ≠ p ∧ c ≠ p := by
  obtain ⟨dx, v, h1, _⟩ := h
  obtain ⟨cs, i, l, m, z, h2, h3, _⟩ := D
  exact ⟨ne_of h2 h1 (by intro z; cases z), ne_of h3 h1 (by intro z; cases z)⟩
theorem KeptAt.deck {C : Addr} {H H' : Hp} {p d c : Addr} {n : Nat} {pl : List Nm} {ts : List Tie} (h : KeptAt C H p pl ts) (D : DeckAt H d c n) (s : SmX d H H') : KeptAt C H' p pl ts := h.mv (fun _ _ z => s _ _ (h.nd D).1.symm z) (D.tk s)
theorem KeptZ.nd {C : Addr} {H : Hp} {p d c : Addr} {n : Nat} {pl : List Nm} {ts : List Tie} (h : KeptZ C H p pl ts) (D : DeckAt H d c n) : d ≠ p ∧ c ≠ p := h.at.nd D
theorem KeptZ.deck {C : Addr} {H H' : Hp} {p d c : Addr} {n : Nat} {pl : List Nm} {ts : List Tie} (h : KeptZ C H p pl ts) (D : DeckAt H d c n) (s : SmX d H H') : KeptZ C H' p pl ts := h.mv (fun _ _ z => s _ _ (h.nd D).1.symm z) (D.tk s)
theorem last_at {pl : List Nm} (ne : pl ≠ []) : ∃ y, y ∈ pl ∧ atI ((pl.map S).map V.str) (-1) = some (.str (S y)) := by
  obtain ⟨L, b, rfl⟩ := (List.eq_nil_or_concat pl).resolve_left ne
  exact ⟨b, by simp, by rw [List.concat_eq_append, List.map_append, List.map_append]; exact atI_last _ _⟩
theorem first_at {pl : List Nm} (ne : pl ≠ []) : ∃ y, y ∈ pl ∧ atI ((pl.map S).map V.str) 0 = some (.str (S y)) := by
  cases pl with
  | nil => exact absurd rfl ne
  | cons a r => exact ⟨a, by simp, atI_nat (j := 0) rfl⟩
theorem ties_lay : ∀ {ts : List Tie}, (∀ e ∈ ts, NameOk e.1 ∧ NameOk e.2.1) → PyData.canLayAll0 (ts.map tieD) = true ∧ PyData.depthAll (ts.map tieD) ≤ 1
  | [], _ => ⟨rfl, Nat.zero_le _⟩
  | e :: r, h => by
    obtain ⟨h1, h2⟩ := ties_lay fun x hx => h x (List.mem_cons.mpr (.inr hx))
    obtain ⟨a, b⟩ := h e (List.mem_cons.mpr (.inl rfl))
    refine ⟨?_, ?_⟩
    · show ((PyData.strOk (S e.1) && (PyData.strOk (S e.2.1) && (true && true))) && PyData.canLayAll0 (r.map tieD)) = true
      rw [strOk_S a, strOk_S b, h1]
      rfl
    · show max (max 0 (max 0 (max 0 0)) + 1) (PyData.depthAll (r.map tieD)) ≤ 1
      omega
theorem ties_shaped {ts : List Tie} (h : ∀ e ∈ ts, NameOk e.1 ∧ NameOk e.2.1) : SeqAt.shaped (.tuple (ts.map tieD)) = true := by
  obtain ⟨i1, i2⟩ := ties_lay h
  show (PyData.canLayAll0 (ts.map tieD) && decide (PyData.depthAll (ts.map tieD) + 1 ≤ 64)) = true
  rw [i1, decide_eq_true (by omega)]
  rfl
/-- what the law knows of a tree -/
structure Good (pl : List Nm) (ts : List Tie) : Prop where
  it : IsTree pl ts
  ok : ∀ l ∈ pl, NameOk l
  len : pl.length ≤ 30
theorem Good.okt {pl : List Nm} {ts : List Tie} (g : Good pl ts) : ∀ e ∈ ts, NameOk e.1 ∧ NameOk e.2.1 := fun e he => ⟨g.ok _ (g.it.ties e he).1, g.ok _ (g.it.ties e he).2.1⟩
theorem Good.ne {pl : List Nm} {ts : List Tie} (g : Good pl ts) : pl ≠ [] := fun z => by
  have := g.it.len
  rw [z] at this
  simp at this
abbrev s_law_deed : Stmt := topS 43
abbrev N_law_deed : List Str := ["deck", "kept", "tree", "places", "ties", "way", "name", "at", "length", "newer", "leaves", "left", "one", "other", "long", "ends", "told", "tie"]
theorem sc_law_deed : FnScope N_law_deed ["deck", "kept", "tree"] (defScope s_law_deed) := ⟨rfl, rfl, rfl, by decide +kernel, rfl, by decide +kernel, by decide +kernel⟩
section
variable {P : Program} {w : World} {K : PySem.W.Frag} {mg : Str → Option Value} {base : Heap} {C J aN : Addr}
def spDeed (C : Addr) : Sp := fun vs H Q _ => ∃ (d c p : Addr) (v : V) (n : Nat) (pl : List Nm) (ts : List Tie), vs = [.ref d, .ref p, v] ∧ DeckAt H d c n ∧ n < 50000 ∧ KeptZ C H p pl ts ∧ Dt H v (treeD pl ts) ∧ PlZ H v pl ∧ Good pl ts ∧
  ∀ (H' : Hp) (r : Addr) (u : V) (pl' : List Nm) (ts' : List Tie), H' r = some (.lst [.non, u]) → Dt H' u (treeD pl' ts') → PlZ H' u pl' → KeptZ C H' p pl' ts' → Good pl' ts' → SmD d p H H' → TK H H' → DeckAt H' d c (n + 70) → Q (.ref r) H'
theorem ok_deed {f : Addr} {fd : FuncData} (F : Fun K "_law_deed" "_law_deed" s_law_deed f fd) (T : Txt mg) (C_law_next : Cal P w K mg base 2 "_law_next" spNext) (C_law_fresh : Cal P w K mg base 4 "_law_fresh" spFresh) (C_law_leaves : Cal P w K mg base 1 "_law_leaves" spLLeaves) (C_law_length : Cal P w K mg base 3 "_law_length" spLLen)
    (Mput_leaf : CalM P w K mg base 4 C "put_leaf" (spPut C J aN)) (Mtake_leaf : CalM P w K mg base 4 C "take_leaf" (spTake C J aN)) (Mlengthen : CalM P w K mg base 4 C "lengthen" (spLonger C J aN)) : FnOk P w K mg base CX0 5 f fd ["deck", "kept", "tree"] (spDeed C) := by
  refine F.ok sc_law_deed (fun vs H Q E h => ?_) (fun cdv A outer s H vs Q E hr h => ?_)
  · obtain ⟨d, c, p, v, n, pl, ts, rfl, _⟩ := h
    rfl
  · obtain ⟨d, c, p, v, n, pl, ts, rfl, DD, hn, hK, hv, hz, G, q⟩ := h
    obtain ⟨t, a, b, vs, rfl, ht, ha, hb, hA⟩ := dt_tree hv
    obtain ⟨t', a', b', oz, et, ht', odz, hfz⟩ := hz
    cases et
    rw [ht] at ht'
    cases ht'
    have vl : vs.length = ts.length := by
      have := DtAll.len hA
      rwa [List.length_map] at this
    have tl := G.it.len
    have p30 := G.len
    have pne := G.ne
    have plp : 0 < pl.length := List.length_pos_iff.mpr pne
    refine ⟨_, (pss_cons (ps_asg (pv 2) (pg_tup rfl (pgs_cons (pg_name (i := 3) sc_law_deed.nd rfl (.inl rfl)) (pgs_cons (pg_name (i := 4) sc_law_deed.nd rfl (.inl rfl)) pgs_nil))))
      (pss_cons (ps_set (i := 5) sc_law_deed.nd rfl (.inl rfl) (pe_c C_law_next hr (by decide) rfl (pa_cons (pv 0) (pa_cons pe_int pa_nil))))
      (pss_cut (ps_if (PW.pt (pw_and (pt_cmpR op_lt (pe_callB call_len_seq (by rfl) T.len bt_len (pa_cons (pv 3) pa_nil)) pe_int (nomark _)) (pw_and1 (PW.pt (pw_or (pt_cmpR op_lt (pv 5) pe_int (nomark _)) (pw_or1 (pt_cmpR (op_eqD (hd_of hr (by decide))) (pv 4) (pe_tup pa_nil) (nomark _))))))))
        (pss_cons (ps_set (i := 6) sc_law_deed.nd rfl (.inr rfl) (pe_c C_law_fresh hr (by decide) rfl (pa_cons (pv 0) (pa_cons (pv 3) pa_nil))))
        (pss_cons (ps_set (i := 7) sc_law_deed.nd rfl (.inl rfl) (pe_ix ix_list (pe_lst (pa_cons (pe_ix ix_tup (pv 3) (pe_c C_law_next hr (by decide) rfl (pa_cons (pv 0) (pa_cons (pe_callB call_len_seq (by rfl) T.len bt_len (pa_cons (pv 3) pa_nil)) pa_nil))) (fun _ _ => rfl)) (pa_cons (pe_ix ix_tup (pv 3) (pe_un un_neg pe_int) (fun _ _ => rfl)) (pa_cons (pe_ix ix_tup (pv 3) pe_int (fun _ _ => rfl)) pa_nil)))) (pe_c C_law_next hr (by decide) rfl (pa_cons (pv 0) (pa_cons pe_int pa_nil))) (fun _ _ => rfl)))
        (pss_cons (ps_set (i := 8) sc_law_deed.nd rfl (.inl rfl) (pe_c C_law_length hr (by decide) rfl (pa_cons (pv 0) pa_nil)))
        (pss_cons (ps_set (i := 9) sc_law_deed.nd rfl (.inl rfl) (pe_tup (pa_cons (pe_op op_catZ (pv 3) (pe_tup (pa_cons (pv 6) pa_nil))) (pa_cons (pe_op op_catA (pv 4) (pe_tup (pa_cons (pe_tup (pa_cons (pv 7) (pa_cons (pv 6) (pa_cons (pv 8) pa_nil)))) pa_nil))) pa_nil))))
        (pss_one (ps_ret (pe_lst (pa_cons (pe_mX takes0 Mput_leaf hr (by decide) (pv 1) (pa_cons (pv 6) (pa_cons (pv 7) (pa_cons (pv 8) pa_nil)))) (pa_cons (pv 9) pa_nil)))))))))
        pss_nil)
      (pss_cut (ps_if (PW.pt (pw_and (pt_cmpR op_lt (pv 5) pe_int (nomark _)) (pw_and1 (pt_cmpR op_gt (pe_callB call_len_seq (by rfl) T.len bt_len (pa_cons (pv 3) pa_nil)) pe_int (nomark _)))))
        (pss_cons (ps_set (i := 10) sc_law_deed.nd rfl (.inl rfl) (pe_c C_law_leaves hr (by decide) rfl (pa_cons (pv 2) pa_nil)))
        (pss_cons (ps_set (i := 6) sc_law_deed.nd rfl (.inr rfl) (pe_ix ix_list (pe_lst (pa_cons (pe_ix ix_list (pv 10) (pe_c C_law_next hr (by decide) rfl (pa_cons (pv 0) (pa_cons (pe_callB call_len_seq (by rfl) T.len bt_len (pa_cons (pv 10) pa_nil)) pa_nil))) (fun _ _ => rfl)) (pa_cons (pe_ix ix_list (pv 10) (pe_un un_neg pe_int) (fun _ _ => rfl)) pa_nil))) (pe_c C_law_next hr (by decide) rfl (pa_cons (pv 0) (pa_cons pe_int pa_nil))) (fun _ _ => rfl)))
        (pss_cons (ps_set (i := 11) sc_law_deed.nd rfl (.inl rfl) (pe_tupleOf (by rfl) T.tuple (pe_lc (own := [("tie", 17)]) (g := gName 17)  rfl sc_law_deed.nd (pi_tup (pv 4)) (blkOk_by (N := N_law_deed) (sc := defScope s_law_deed) (by decide +kernel)) (fun _ _ _ _ _ => pg_name (i := 17) sc_law_deed.nd rfl (Or.inl rfl)) (fun _ _ _ _ _ => pts_one (pt_cmpR (notInK (K := K)) (pv 6) (pe_slice (slTK (K := K)) (pv 17) po_none (po_some pe_int)) rfl)) (fun _ _ _ _ _ => (pv 17)))))
        (pss_one (ps_ret (pe_lst (pa_cons (pe_mX takes0 Mtake_leaf hr (by decide) (pv 1) (pa_cons (pv 6) pa_nil)) (pa_cons (pe_tup (pa_cons (pe_tupleZ (by rfl) T.tuple (pe_lc (own := [("one", 12)]) (g := gName 12)  rfl sc_law_deed.nd (pi_tup (pv 3)) (blkOk_by (N := N_law_deed) (sc := defScope s_law_deed) (by decide +kernel)) (fun _ _ _ _ _ => pg_name (i := 12) sc_law_deed.nd rfl (Or.inl rfl)) (fun _ _ _ _ _ => pts_one (pt_cmpR op_ne (pv 12) (pv 6) (nomark _))) (fun _ _ _ _ _ => (pv 12)))) (pa_cons (pv 11) pa_nil))) pa_nil))))))))
        pss_nil)
      (pss_cons (ps_set (i := 7) sc_law_deed.nd rfl (.inl rfl) (pe_c C_law_next hr (by decide) rfl (pa_cons (pv 0) (pa_cons (pe_callB call_len_seq (by rfl) T.len bt_len (pa_cons (pv 4) pa_nil)) pa_nil))))
      (pss_cons (ps_asg (pe_ix ix_tup (pv 4) (pv 7) (fun _ _ => rfl)) (pg_tup rfl (pgs_cons (pg_name (i := 12) sc_law_deed.nd rfl (.inl rfl)) (pgs_cons (pg_name (i := 13) sc_law_deed.nd rfl (.inl rfl)) (pgs_cons (pg_name (i := 14) sc_law_deed.nd rfl (.inl rfl)) pgs_nil)))))
      (pss_cons (ps_set (i := 8) sc_law_deed.nd rfl (.inl rfl) (pe_c C_law_length hr (by decide) rfl (pa_cons (pv 0) pa_nil)))
      (pss_cons (ps_set (i := 15) sc_law_deed.nd rfl (.inl rfl) (pe_ix ix_list (pe_lst (pa_cons (pe_tup (pa_cons (pv 12) (pa_cons (pv 13) pa_nil))) (pa_cons (pe_tup (pa_cons (pv 13) (pa_cons (pv 12) pa_nil))) pa_nil))) (pe_c C_law_next hr (by decide) rfl (pa_cons (pv 0) (pa_cons pe_int pa_nil))) (fun _ _ => rfl)))
      (pss_cons (ps_set (i := 16) sc_law_deed.nd rfl (.inl rfl) (pe_mX takes0 Mlengthen hr (by decide) (pv 1) (pa_cons (pe_ix ix_tup (pv 15) pe_int (fun _ _ => rfl)) (pa_cons (pe_ix ix_tup (pv 15) pe_int (fun _ _ => rfl)) (pa_cons (pv 8) pa_nil)))))
      (pss_one (ps_ret (pe_lst (pa_cons (pv 16) (pa_cons (pe_tup (pa_cons (pv 3) (pa_cons (pe_op op_catA (pe_op op_catA (pe_slice sl_tup (pv 4) po_none (po_some (pv 7))) (pe_tup (pa_cons (pe_tup (pa_cons (pv 12) (pa_cons (pv 13) (pa_cons (pv 8) pa_nil)))) pa_nil))) (pe_slice sl_tup (pv 4) (po_some (pe_op op_add (pv 7) pe_int)) po_none)) pa_nil))) pa_nil)))))))))))))), ?_⟩
    refine ⟨_, rfl, t, _, rfl, SqT.of ht, rfl, _, _, rfl, _, _, rfl, rfl, ?_⟩
    refine ⟨_, rfl, d, c, n, 5, rfl, DD, by omega, by decide, by decide, fun H1 way w0 w1 S1 D1 => ?_⟩
    have k1 := DD.tk S1
    have ha1 := ha.tk k1
    have hb1 := k1.tup _ _ hb
    have hv1 := Dt.keep k1 hv
    have hA1 := DtAll.keep k1 hA
    have hK1 := hK.deck DD S1
    have SD1 : SmD d p H H1 := SmD.of S1
    -- put
    refine ⟨fun σ' H' => σ' = [some (.ref d), some (.ref p), some (.ref t), some (.ref a), some (.ref b), some (.int way), none, none, none, none, none, none, none, none, none, none, none, none] ∧ Same H1 H' ∧ ts ≠ [], ?_, fun σ' H2 hM => ?_⟩
    · refine' via (fun H2 => Same H1 H2 ∧ pl.length < 30) (fun body => ?_) ?_
      rotate_left
      · refine ⟨_, rfl, a, _, rfl, .inr ha1.sq, _, _, rfl, rfl, _, rfl, ?_⟩
        rw [List.length_map, List.length_map]
        by_cases c1 : ((pl.length : Nat) : Int) < 30
        · rw [decide_eq_true c1]
          refine iteT ?_
          refine ⟨_, rfl, _, _, rfl, rfl, _, rfl, ?_⟩
          by_cases c2 : way < 2
          · rw [decide_eq_true c2]
            exact iteT (iteT (body H1 ⟨Same.refl _, by omega⟩))
          · rw [decide_eq_false c2]
            refine iteF ?_
            refine ⟨_, rfl, Nat.zero_le _, fun e ne => ?_⟩
            have Se := same_new (o := .tup []) (Same.refl H1) ne
            refine ⟨_, _, .tup (SqT.of (Se _ _ hb1)) (DtAll.dp (DtAll.keep (TK.of Se) hA1)), .tup (SqT.of upd_same) .nil, ties_shaped G.okt, rfl, _, rfl, ?_⟩
            cases ts with
            | nil => exact iteT (body _ ⟨Se, by omega⟩)
            | cons y r => exact iteF ⟨rfl, Se, by simp⟩
        · rw [decide_eq_false c1]
          refine iteF (iteF ⟨rfl, Same.refl _, fun z => ?_⟩)
          rw [z] at tl
          simp at tl
          omega
      · rintro H2 ⟨S2, l30⟩
        have D2 := D1.same S2
        have ha2 := ha1.same S2
        have hb2 := S2 _ _ hb1
        have hK2 := hK1.same S2
        have k2 := k1.trans (TK.of S2)
        refine ⟨_, rfl, _, rfl, d, c, a, _, pl, rfl, ha2, D2, by omega, plp, by omega, G.ok, fun H3 nm nok nin S3 D3 => ?_⟩
        have ha3 := ha2.tk (D2.tk S3)
        have hK3 := hK2.deck D2 S3
        refine ⟨_, rfl, _, rfl, _, rfl, a, _, rfl, .inr ha3.sq, d, c, _, pl.length, by rw [List.length_map, List.length_map]; rfl, D3, by omega, by omega, by omega, fun H4 r r0 r1 S4 D4 => ?_⟩
        have ha4 := ha3.tk (D3.tk S4)
        have hK4 := hK3.deck D3 S4
        obtain ⟨y1, hy1, hv1'⟩ : ∃ y : Nm, y ∈ pl ∧ atI ((pl.map S).map V.str) r = some (.str (S y)) := by
          obtain ⟨v, hv, mv⟩ := atI_in (xs := (pl.map S).map V.str) r0 (by rw [List.length_map, List.length_map]; exact r1)
          obtain ⟨y, my, rfl⟩ := strs_at mv
          exact ⟨y, my, hv⟩
        obtain ⟨y2, hy2, hv2⟩ := last_at pne
        obtain ⟨y3, hy3, hv3⟩ := first_at pne
        refine ⟨a, _, r, _, rfl, rfl, ha4.sq, hv1', _, rfl, _, rfl, a, _, -1, _, rfl, rfl, ha4.sq, hv2, _, rfl, a, _, 0, _, rfl, rfl, ha4.sq, hv3, (by show 3 ≤ sizeLine; decide), fun e ne => ?_⟩
        have D5 := D4.new (o := .lst [.str (S y1), .str (S y2), .str (S y3)]) ne
        have hK5 := hK4.same (same_new (o := .lst [.str (S y1), .str (S y2), .str (S y3)]) (Same.refl H4) ne)
        refine ⟨_, rfl, d, c, _, 3, rfl, D5, by omega, by decide, by decide, fun H6 r6 c0 c1 S6 D6 => ?_⟩
        have he6 := S6 e _ (D4.nd ne) upd_same
        have hK6 := hK5.deck D5 S6
        obtain ⟨w', hw, mw⟩ := atI_in (xs := [V.str (S y1), .str (S y2), .str (S y3)]) c0 (by simpa using c1)
        obtain ⟨x, rfl, hx⟩ : ∃ l : Nm, w' = .str (S l) ∧ l ∈ pl := by
          simp only [List.mem_cons, List.not_mem_nil, or_false] at mw
          rcases mw with z | z | z
          · exact ⟨_, z, hy1⟩
          · exact ⟨_, z, hy2⟩
          · exact ⟨_, z, hy3⟩
        refine ⟨e, _, r6, _, rfl, rfl, SqL.of he6, hw, ?_⟩
        refine ⟨_, rfl, d, c, _, rfl, D6, by omega, fun H7 k k1' k2' S7 D7 => ?_⟩
        have hK7 := hK6.deck D6 S7
        have tk37 : TK H2 H7 := (((D2.tk S3).trans (D3.tk S4)).trans ((TK.new ne).trans (D5.tk S6))).trans (D6.tk S7)
        have ha7 := ha2.tk tk37
        have hb7 := tk37.tup _ _ hb2
        have hA7 := DtAll.keep ((TK.of S2).trans tk37) hA1
        have SX7 : SmX d H2 H7 := (((S3.trans S4).new ne).trans S6).trans S7
        -- the tree as it is due
        refine ⟨_, rfl, _, rfl, (by show 1 ≤ sizeLine; decide), fun e1 ne1 => ?_⟩
        have T1 := same_new (o := .tup [.str (S nm)]) (Same.refl H7) ne1
        refine cat_anyZ (xs := (pl.map S).map V.str) (ys := [.str (S nm)]) (ha7.same T1) (.inl upd_same) (by simpa using pne) (by simp) (by rw [List.length_map, List.length_map]; exact sz_le (by simp; omega)) fun q1 o1 H8 T2 od1 hq1 => ?_
        have hq1' : H8 q1 = some (.frz o1 (.tup (((pl ++ [nm]).map S).map V.str))) := by rw [List.map_append, List.map_append]; exact hq1
        refine ⟨_, rfl, _, rfl, _, rfl, _, rfl, (by show 3 ≤ sizeLine; decide), fun e2 ne2 => ⟨(by show 1 ≤ sizeLine; decide), fun e3 ne3 => ?_⟩⟩
        have T3 := same_new (o := .tup [.ref e2]) (same_new (o := .tup [.str (S x), .str (S nm), .int k]) (Same.refl H8) ne2) ne3
        have he2 : (upd (upd H8 e2 (.tup [.str (S x), .str (S nm), .int k])) e3 (.tup [.ref e2])) e2 = some (.tup [.str (S x), .str (S nm), .int k]) := by
          rw [upd_ne (ne_of_none upd_same ne3)]
          exact upd_same
        refine cat_any0 (xs := vs) (ys := [.ref e2]) ((T1.trans (T2.trans T3)) _ _ hb7) upd_same (by exact sz_le (by simp; omega)) fun q2 H9 T4 hq2 => ?_
        refine ⟨(by show 2 ≤ sizeLine; decide), fun r nr => ?_⟩
        have T5 := same_new (o := .tup [.ref q1, .ref q2]) ((T1.trans (T2.trans T3)).trans T4) nr
        have tk9 : TK H9 (upd H9 r (.tup [.ref q1, .ref q2])) := TK.new nr
        have due : Dt (upd H9 r (.tup [.ref q1, .ref q2])) (.ref r) (treeD (pl ++ [nm]) (ts ++ [(x, nm, k)])) := by
          refine .tup upd_same (.cons (.tupZ rfl (by simp) od1 (tk9.frz _ _ _ ((T3.trans T4) _ _ hq1'))) (.cons (.tup (tk9.tup _ _ hq2) ?_) .nil))
          · rw [List.map_append]
            exact DtAll.app (DtAll.keep (TK.of T5) hA7) (.cons (.tup (tk9.tup _ _ (T4 _ _ he2)) (.cons (.str _) (.cons (.str _) (.cons (.int _) .nil)))) .nil)
        have dueZ : PlZ (upd H9 r (.tup [.ref q1, .ref q2])) (.ref r) (pl ++ [nm]) := ⟨r, q1, q2, o1, rfl, upd_same, od1, tk9.frz _ _ _ ((T3.trans T4) _ _ hq1')⟩
        generalize upd H9 r (.tup [.ref q1, .ref q2]) = H10 at T5 due dueZ
        have hK10 := hK7.same T5
        have D10 := D7.same T5
        obtain ⟨dx, vv, hp10, _⟩ := id hK10
        refine ⟨_, rfl, p, dx, _, rfl, hp10, no_tree (by decide +kernel), _, rfl, _, rfl, _, rfl, p, pl, ts, nm, x, k, rfl, hK10.at, nok, G.ok x hx, pne, by omega, by omega, ⟨by omega, by omega⟩, fun _ _ _ H11 hK11 S11 => ?_, fun z => absurd hx z, fun _ z => z.elim (fun y => absurd y nin) fun y => absurd y (by omega)⟩
        have nd := hK10.nd D10
        have tk11 : TK H10 H11 := ⟨fun b' ys hb' => S11 b' _ (ne_of hb' hp10 (by intro z; cases z)) hb', fun b' o' ys hb' => S11 b' _ (ne_of hb' hp10 (by intro z; cases z)) hb'⟩
        refine ⟨_, rfl, (by show 2 ≤ sizeLine; decide), fun r2 nr2 => ?_⟩
        have T6 := same_new (o := .lst [.non, .ref r]) (Same.refl H11) nr2
        refine q _ r2 (.ref r) _ _ upd_same (Dt.keep (tk11.trans (TK.of T6)) due) (dueZ.keep (tk11.trans (TK.of T6))) (hK11.same T6) ⟨G.it.more hx nin k1' k2', fun l hl => ?_, by rw [List.length_append, List.length_singleton]; omega⟩ ?_ ?_ ?_
        · rcases List.mem_append.mp hl with z | z
          · exact G.ok l z
          · rw [List.mem_singleton.mp z]
            exact nok
        · exact ((((SD1.trans (SmD.of (SmX.of S2))).trans (SmD.of SX7)).trans (SmD.of (SmX.of T5))).trans (SmD.of2 S11)).trans (SmD.of (SmX.of T6))
        · exact ((k2.trans tk37).trans (TK.of T5)).trans (tk11.trans (TK.of T6))
        · exact ((D10.smx S11 nd.1 nd.2).same T6).mono (by omega)
    obtain ⟨rfl, S2, tne⟩ := hM
    have D2 := D1.same S2
    have ha2 := ha1.same S2
    have hb2 := S2 _ _ hb1
    have hv2 := Dt.keep (TK.of S2) hv1
    have hA2 := DtAll.keep (TK.of S2) hA1
    have hK2 := hK1.same S2
    have k2 := k1.trans (TK.of S2)
    have SD2 := SD1.trans (SmD.of (SmX.of S2))
    have tpos : 0 < ts.length := List.length_pos_iff.mpr tne
    -- take
    refine ⟨fun σ' H' => σ' = [some (.ref d), some (.ref p), some (.ref t), some (.ref a), some (.ref b), some (.int way), none, none, none, none, none, none, none, none, none, none, none, none] ∧ H' = H2, ?_, fun σ' H' hM => ?_⟩
    · refine ⟨_, rfl, _, _, rfl, rfl, _, rfl, ?_⟩
      by_cases c1 : way < 4
      · rw [decide_eq_true c1]
        refine iteT ?_
        refine ⟨_, rfl, a, _, rfl, .inr ha2.sq, _, _, rfl, rfl, _, rfl, ?_⟩
        rw [List.length_map, List.length_map, decide_eq_true (show ((pl.length : Nat) : Int) > 1 by omega)]
        refine iteT ?_
        -- leaves
        refine ⟨_, rfl, .ref t, pl, ts, rfl, hv2, by omega, by omega, fun H3 g S3 ng hg => ?_⟩
        have lne := G.it.leaf_in (by omega)
        have lpos : 0 < (leavesOf pl ts).length := List.length_pos_iff.mpr lne
        have l30 : (leavesOf pl ts).length ≤ 30 := by
          unfold leavesOf
          have := List.length_filter_le (fun x => decide (deg ts x = 1)) pl
          omega
        have D3 := D2.same S3
        have gd := D2.nd ng
        refine ⟨_, rfl, _, rfl, _, rfl, g, _, rfl, .inl (SqL.of hg), d, c, _, (leavesOf pl ts).length, by rw [List.length_map, List.length_map]; rfl, D3, by omega, by omega, by omega, fun H4 r r0 r1 S4 D4 => ?_⟩
        have hg4 := S4 g _ gd hg
        obtain ⟨y1, hy1, hv1'⟩ : ∃ y : Nm, y ∈ leavesOf pl ts ∧ atI (((leavesOf pl ts).map S).map V.str) r = some (.str (S y)) := by
          obtain ⟨v, hv, mv⟩ := atI_in (xs := ((leavesOf pl ts).map S).map V.str) r0 (by rw [List.length_map, List.length_map]; exact r1)
          obtain ⟨y, my, rfl⟩ := strs_at mv
          exact ⟨y, my, hv⟩
        obtain ⟨y2, hy2, hv2'⟩ := last_at lne
        refine ⟨g, _, r, _, rfl, rfl, SqL.of hg4, hv1', _, rfl, _, rfl, g, _, -1, _, rfl, rfl, SqL.of hg4, hv2', (by show 2 ≤ sizeLine; decide), fun e ne => ?_⟩
        have D5 := D4.new (o := .lst [.str (S y1), .str (S y2)]) ne
        refine ⟨_, rfl, d, c, _, 2, rfl, D5, by omega, by decide, by decide, fun H6 r6 c0 c1 S6 D6 => ?_⟩
        have he6 := S6 e _ (D4.nd ne) upd_same
        obtain ⟨w', hw, mw⟩ := atI_in (xs := [V.str (S y1), .str (S y2)]) c0 (by simpa using c1)
        obtain ⟨nm, rfl, hnm⟩ : ∃ l : Nm, w' = .str (S l) ∧ l ∈ leavesOf pl ts := by
          simp only [List.mem_cons, List.not_mem_nil, or_false] at mw
          rcases mw with z | z
          · exact ⟨_, z, hy1⟩
          · exact ⟨_, z, hy2⟩
        refine ⟨e, _, r6, _, rfl, rfl, SqL.of he6, hw, ?_⟩
        obtain ⟨nin, dn⟩ := mem_leaves hnm
        have bne : but pl nm ≠ [] := fun z => by
          have := (G.it.less nin dn).len
          rw [z] at this
          simp at this
        have SX6 : SmX d H2 H6 := (((SmX.of S3).trans S4).new ne).trans S6
        have tk6 : TK H2 H6 := ((TK.of S3).trans (D3.tk S4)).trans ((TK.new ne).trans (D5.tk S6))
        have ha6 := ha2.tk tk6
        have hb6 := tk6.tup _ _ hb2
        have hA6 := DtAll.keep tk6 hA2
        have hK6 := hK2.deck D2 SX6
        -- left
        refine ⟨_, rfl, b, rfl, ⟨_, SqT.of hb6⟩, fun D nD => ?_⟩
        refine lc_tup (K := K) (a := b) (xs := vs) (fun i H' => Same H6 H' ∧ ∃ ws, H' D = some (.lst ws) ∧ DtAll H' ws ((rem (ts.take i) nm).map tieD)) ⟨same_new (Same.refl _) nD, [], upd_same, .nil⟩ (fun i H' _ hP => SqT.of (hP.1 _ _ hb6)) (fun i v H' hi hP => ?_) (fun H' hP => ?_)
        · obtain ⟨SM, ws, hD, hW⟩ := hP
          obtain ⟨t3, p3, ht3, rfl, hp3⟩ := tie_at (DtAll.keep (TK.of SM) hA6) hi
          have il := (List.getElem?_eq_some_iff.mp ht3).1
          have et : ts.take (i + 1) = ts.take i ++ [t3] := by rw [List.take_add_one, ht3]; rfl
          have wl : ws.length ≤ 1000 := by
            have := DtAll.len hW
            rw [this, List.length_map]
            unfold rem
            have := List.length_filter_le (fun t => !decide (t.1 = nm) && !decide (t.2.1 = nm)) (ts.take i)
            rw [List.length_take] at this
            omega
          refine ⟨rfl, _, rfl, _, rfl, 2, rfl, p3, _, rfl, SqT.of hp3, (fun z => nomatch z.2), fun e5 ne5 => ?_⟩
          have ecut : cutV [V.str (S t3.1), .str (S t3.2.1), .int t3.2.2] none (some 2) = (([t3.1, t3.2.1] : List Nm).map S).map V.str := rfl
          rw [ecut]
          have S5 := same_new (o := .tup ((([t3.1, t3.2.1] : List Nm).map S).map V.str)) (Same.refl H') ne5
          refine ⟨e5, _, rfl, .inr (SqT.of upd_same), rfl, flat_strs _, _, rfl, ?_⟩
          rw [inV_strs]
          have hD5 := S5 _ _ hD
          by_cases c : nm ∈ [t3.1, t3.2.1]
          · rw [decide_eq_true c]
            refine iteF ⟨SM.trans S5, ws, hD5, ?_⟩
            rw [et, rem_app]
            have : rem [t3] nm = [] := by
              simp only [List.mem_cons, List.not_mem_nil, or_false] at c
              rcases c with z | z <;> simp [rem, z]
            rw [this, List.append_nil]
            exact DtAll.keep (TK.of S5) hW
          · rw [decide_eq_false c]
            refine iteT ⟨_, rfl, _, hD5, sz_lt (by omega), same_put (SM.trans S5) nD, ws ++ [.ref p3], upd_same, ?_⟩
            have tk := TK.mut (o := .lst (ws ++ [.ref p3])) hD5
            rw [et, rem_app]
            have : rem [t3] nm = [t3] := by
              simp only [List.mem_cons, List.not_mem_nil, or_false, not_or] at c
              simp [rem]
              exact ⟨fun z => c.1 (Eq.symm z), fun z => c.2 (Eq.symm z)⟩
            rw [this, List.map_append]
            exact DtAll.app (DtAll.keep ((TK.of S5).trans tk) hW) (.cons (.tup (tk.tup _ _ (S5 _ _ hp3)) (.cons (.str _) (.cons (.str _) (.cons (.int _) .nil)))) .nil)
        obtain ⟨S7, ws, hD, hW⟩ := hP
        rw [List.take_of_length_le (by omega)] at hW
        refine .inl ⟨D, ws, rfl, SqL.of hD, fun q1 nq1 => ?_⟩
        have S8 := same_new (o := .tup ws) S7 nq1
        have hq1 : (upd H' q1 (.tup ws)) q1 = some (.tup ws) := upd_same
        have hW8 := DtAll.keep (TK.new (o := .tup ws) nq1) hW
        generalize upd H' q1 (.tup ws) = H8 at S8 hq1 hW8
        have hK8 := hK6.same S8
        have D8 := D6.same S8
        obtain ⟨dx, vv, hp8, _⟩ := id hK8
        refine ⟨_, rfl, p, dx, _, rfl, hp8, no_tree (by decide +kernel), _, rfl, p, pl, ts, nm, rfl, hK8, G.ok nm nin, by omega, by omega, fun _ _ => ⟨(by rw [keptP_but]; exact bne), fun H9 hK9 S9 => ?_⟩, fun z => absurd nin z, fun _ z => absurd dn z⟩
        have nd := hK8.nd D8
        have tk9 : TK H8 H9 := ⟨fun b' ys hb' => S9 b' _ (ne_of hb' hp8 (by intro z; cases z)) hb', fun b' o' ys hb' => S9 b' _ (ne_of hb' hp8 (by intro z; cases z)) hb'⟩
        have ha9 := (ha6.same S8).tk tk9
        rw [keptP_but, keptT_but (fun e he => ⟨(G.it.ties e he).1, (G.it.ties e he).2.1⟩)] at hK9
        refine ⟨_, rfl, a, rfl, ⟨_, ha9.sq⟩, fun B nB => ?_⟩
        refine lc_tup (K := K) (a := a) (xs := (pl.map S).map V.str) (fun i H' => Same H9 H' ∧ H' B = some (.lst (((but (pl.take i) nm).map S).map V.str))) ⟨same_new (Same.refl _) nB, upd_same⟩ (fun i H' _ hP => (ha9.same hP.1).sq) (fun i v H' hi hP => ?_) (fun H' hP => ?_)
        · obtain ⟨SM, hB⟩ := hP
          obtain ⟨x, hx, mx, rfl, ex⟩ := at_name hi
          refine ⟨rfl, _, rfl, _, rfl, rfl, _, rfl, ?_⟩
          have gl : (but (pl.take i) nm).length ≤ 1000 := by
            unfold but
            have := List.length_filter_le (fun x => !decide (x = nm)) (pl.take i)
            rw [List.length_take] at this
            omega
          by_cases c : x = nm
          · have e1 : decide (V.str (S x) = V.str (S nm)) = true := decide_eq_true (by rw [c])
            rw [e1]
            refine iteF ⟨SM, ?_⟩
            rw [ex]
            unfold but at *
            rw [List.filter_append, List.filter_cons_of_neg (by simp [c])]
            simpa using hB
          · have e1 : decide (V.str (S x) = V.str (S nm)) = false := decide_eq_false fun z => c (SX.S_inj (V.str.inj z))
            rw [e1]
            refine iteT ⟨_, rfl, _, hB, by rw [List.length_map, List.length_map]; exact sz_lt (by omega), same_put SM nB, ?_⟩
            rw [upd_same, ex]
            unfold but
            rw [List.filter_append, List.filter_cons_of_pos (by simp [c]), List.map_append, List.map_append]
            rfl
        obtain ⟨S10, hB⟩ := hP
        rw [List.length_map, List.length_map, List.take_length] at hB
        refine ⟨B, _, rfl, SqL.of hB, fun q2 o2 nq2 od2 => ⟨_, rfl, (by show 2 ≤ sizeLine; decide), fun q3 nq3 => ⟨(by show 2 ≤ sizeLine; decide), fun r nr => ?_⟩⟩⟩
        have tk2 := (TK.new (o := .tup [.ref q2, .ref q1]) nq3).trans (TK.new (o := .lst [.non, .ref q3]) nr)
        have tk1 := (TK.new (o := .frz o2 (.tup (((but pl nm).map S).map V.str))) nq2).trans tk2
        have S11 := same_new (o := .lst [.non, .ref q3]) (same_new (o := .tup [.ref q2, .ref q1]) (same_new (o := .frz o2 (.tup (((but pl nm).map S).map V.str))) S10 nq2) nq3) nr
        refine q _ r (.ref q3) (but pl nm) (rem ts nm) upd_same (.tup ((TK.new nr).tup _ _ upd_same) (.cons (.tupZ rfl bne od2 (tk2.frz _ _ _ upd_same)) (.cons (.tup ((TK.of S11).tup _ _ (tk9.tup _ _ hq1)) (DtAll.keep (tk9.trans (TK.of S11)) hW8)) .nil))) ⟨q3, q2, q1, o2, rfl, (TK.new nr).tup _ _ upd_same, od2, tk2.frz _ _ _ upd_same⟩ (hK9.same S11) ⟨G.it.less nin dn, fun l hl => G.ok l (mem_but.mp hl).1, ?_⟩ ?_ ?_ ?_
        · unfold but
          have := List.length_filter_le (fun x => !decide (x = nm)) pl
          omega
        · exact (((SD2.trans (SmD.of SX6)).trans (SmD.of (SmX.of S8))).trans (SmD.of2 S9)).trans (SmD.of (SmX.of S11))
        · exact (k2.trans tk6).trans ((TK.of S8).trans (tk9.trans (TK.of S11)))
        · exact ((D8.smx S9 nd.1 nd.2).same S11).mono (by omega)
      · rw [decide_eq_false c1]
        exact iteF (iteF ⟨rfl, rfl⟩)
    obtain ⟨rfl, rfl⟩ := hM
    -- lengthen
    refine ⟨_, rfl, _, rfl, b, _, rfl, .inr (SqT.of hb2), d, c, _, vs.length, rfl, D2, by omega, by omega, by omega, fun H3 r r0 r1 S3 D3 => ?_⟩
    obtain ⟨j, rfl⟩ : ∃ j : Nat, r = j := ⟨r.toNat, by omega⟩
    have jl : j < vs.length := by omega
    have k3 := D2.tk S3
    have hb3 := k3.tup _ _ hb2
    have hA3 := DtAll.keep k3 hA2
    have hw : vs[j]? = some vs[j] := List.getElem?_eq_getElem jl
    generalize vs[j] = wv at hw
    obtain ⟨t3, p3, ht3, rfl, hp3⟩ := tie_at hA3 hw
    refine ⟨_, rfl, _, rfl, b, _, (j : Nat), .ref p3, rfl, rfl, SqT.of hb3, atI_nat hw, p3, _, rfl, SqT.of hp3, rfl, _, _, rfl, _, _, rfl, _, _, rfl, rfl, ?_⟩
    refine ⟨_, rfl, d, c, _, rfl, D3, by omega, fun H4 k k1' k2' S4 D4 => ?_⟩
    refine ⟨_, rfl, _, rfl, (by show 2 ≤ sizeLine; decide), fun e1 ne1 => ⟨_, rfl, _, rfl, (by show 2 ≤ sizeLine; decide), fun e2 ne2 => ⟨(by show 2 ≤ sizeLine; decide), fun e3 ne3 => ?_⟩⟩⟩
    have T1 := same_new (o := .lst [.ref e1, .ref e2]) (same_new (o := .tup [.str (S t3.2.1), .str (S t3.1)]) (same_new (o := .tup [.str (S t3.1), .str (S t3.2.1)]) (Same.refl H4) ne1) ne2) ne3
    have h1 : (upd (upd (upd H4 e1 (.tup [.str (S t3.1), .str (S t3.2.1)])) e2 (.tup [.str (S t3.2.1), .str (S t3.1)])) e3 (.lst [.ref e1, .ref e2])) e1 = some (.tup [.str (S t3.1), .str (S t3.2.1)]) := ((TK.new ne2).trans (TK.new ne3)).tup _ _ upd_same
    have h2 : (upd (upd (upd H4 e1 (.tup [.str (S t3.1), .str (S t3.2.1)])) e2 (.tup [.str (S t3.2.1), .str (S t3.1)])) e3 (.lst [.ref e1, .ref e2])) e2 = some (.tup [.str (S t3.2.1), .str (S t3.1)]) := (TK.new ne3).tup _ _ upd_same
    have h3 : (upd (upd (upd H4 e1 (.tup [.str (S t3.1), .str (S t3.2.1)])) e2 (.tup [.str (S t3.2.1), .str (S t3.1)])) e3 (.lst [.ref e1, .ref e2])) e3 = some (.lst [.ref e1, .ref e2]) := upd_same
    have e3d : e3 ≠ d := ((D4.new (o := .tup [.str (S t3.1), .str (S t3.2.1)]) ne1).new (o := .tup [.str (S t3.2.1), .str (S t3.1)]) ne2).nd ne3
    generalize upd (upd (upd H4 e1 (.tup [.str (S t3.1), .str (S t3.2.1)])) e2 (.tup [.str (S t3.2.1), .str (S t3.1)])) e3 (.lst [.ref e1, .ref e2]) = H5 at T1 h1 h2 h3
    have D5 := D4.same T1
    refine ⟨_, rfl, d, c, _, 2, rfl, D5, by omega, by decide, by decide, fun H6 r6 c0 c1 S6 D6 => ?_⟩
    have h3' := S6 e3 _ e3d h3
    have k6 := D5.tk S6
    obtain ⟨w', hw', mw⟩ := atI_in (xs := [V.ref e1, .ref e2]) c0 (by simpa using c1)
    obtain ⟨e, u, x, rfl, he, hux⟩ : ∃ (e : Addr) (u x : Nm), w' = .ref e ∧ H6 e = some (.tup [.str (S u), .str (S x)]) ∧ ((u = t3.1 ∧ x = t3.2.1) ∨ (u = t3.2.1 ∧ x = t3.1)) := by
      simp only [List.mem_cons, List.not_mem_nil, or_false] at mw
      rcases mw with z | z
      · exact ⟨e1, _, _, z, k6.tup _ _ h1, .inl ⟨rfl, rfl⟩⟩
      · exact ⟨e2, _, _, z, k6.tup _ _ h2, .inr ⟨rfl, rfl⟩⟩
    refine ⟨e3, _, r6, _, rfl, rfl, SqL.of h3', hw', ?_⟩
    have SX6 : SmX d H' H6 := ((S3.trans S4).trans (SmX.of T1)).trans S6
    have tk6 : TK H' H6 := ((k3.trans (D3.tk S4)).trans (TK.of T1)).trans k6
    have hK6 := hK2.deck D2 SX6
    have mt := List.mem_of_getElem? ht3
    have tt := G.it.ties t3 mt
    have hu : u ∈ pl := by
      rcases hux with ⟨z, _⟩ | ⟨z, _⟩ <;> rw [z]
      · exact tt.1
      · exact tt.2.1
    have hx : x ∈ pl := by
      rcases hux with ⟨_, z⟩ | ⟨_, z⟩ <;> rw [z]
      · exact tt.2.1
      · exact tt.1
    have ef := G.it.find ht3 hux
    obtain ⟨dx, vv, hp6, _⟩ := id hK6
    refine ⟨_, rfl, p, dx, _, rfl, hp6, no_tree (by decide +kernel), _, rfl, e, _, 0, _, rfl, rfl, SqT.of he, atI_nat (j := 0) rfl, _, rfl, e, _, 1, _, rfl, rfl, SqT.of he, atI_nat (j := 1) rfl, _, rfl, ?_⟩
    refine ⟨p, pl, ts, u, x, k, rfl, hK6, G.ok u hu, G.ok x hx, pne, by omega, by omega, G.okt, ⟨by omega, by omega⟩, fun _ _ _ i t4 ei et4 H7 hK7 S7 => ?_, fun l z => ?_, fun _ _ z => ?_⟩
    rotate_left
    · rcases z with ⟨z, _⟩ | ⟨_, z, _⟩
      · exact absurd hu z
      · exact absurd hx z
    · rcases z with z | z
      · rw [ef] at z
        cases z
      · omega
    have ij : i = j := Option.some.inj (ei.symm.trans ef)
    subst ij
    have e43 : t4 = t3 := Option.some.inj (et4.symm.trans ht3)
    subst e43
    have nd := hK6.nd D6
    have tk7 : TK H6 H7 := ⟨fun b' ys hb' => S7 b' _ (ne_of hb' hp6 (by intro z; cases z)) hb', fun b' o' ys hb' => S7 b' _ (ne_of hb' hp6 (by intro z; cases z)) hb'⟩
    have D7 := D6.smx S7 nd.1 nd.2
    have ha7 := (ha2.tk tk6).tk tk7
    have hb7 := (tk6.trans tk7).tup _ _ hb2
    have hA7 := DtAll.keep (tk6.trans tk7) hA2
    -- return
    refine ⟨_, rfl, _, rfl, _, rfl, _, rfl, (i : Nat), rfl, b, vs, rfl, SqT.of hb7, cut_toN (by omega), fun q1 nq1 => ?_⟩
    rw [cut_to (by omega)]
    have U1 := same_new (o := .tup (vs.take i)) (Same.refl H7) nq1
    have hq1 : (upd H7 q1 (.tup (vs.take i))) q1 = some (.tup (vs.take i)) := upd_same
    generalize upd H7 q1 (.tup (vs.take i)) = H8 at U1 hq1
    refine ⟨_, rfl, _, rfl, _, rfl, (by show 3 ≤ sizeLine; decide), fun g2 ng2 => ⟨(by show 1 ≤ sizeLine; decide), fun g3 ng3 => ?_⟩⟩
    have U2 := same_new (o := .tup [.ref g2]) (same_new (o := .tup [.str (S t4.1), .str (S t4.2.1), .int k]) (Same.refl H8) ng2) ng3
    have hg2 : (upd (upd H8 g2 (.tup [.str (S t4.1), .str (S t4.2.1), .int k])) g3 (.tup [.ref g2])) g2 = some (.tup [.str (S t4.1), .str (S t4.2.1), .int k]) := by
      rw [upd_ne (ne_of_none upd_same ng3)]
      exact upd_same
    refine cat_any0 (xs := vs.take i) (ys := [.ref g2]) (U2 _ _ hq1) upd_same (by rw [List.length_take]; exact sz_le (by simp; omega)) fun q2 H9 U3 hq2 => ?_
    have hb9 := (U1.trans (U2.trans U3)) _ _ hb7
    have ei' : ((i : Nat) : Int) + 1 = ((i + 1 : Nat) : Int) := by omega
    refine ⟨_, rfl, _, rfl, _, _, rfl, rfl, ((i + 1 : Nat) : Int), congrArg V.int ei', b, vs, rfl, SqT.of hb9, cut_fromN (by omega) (by omega), fun q3 nq3 => ?_⟩
    rw [cut_from (by omega)]
    have U4 := same_new (o := .tup (vs.drop (i + 1))) (Same.refl H9) nq3
    refine cat_any0 (xs := vs.take i ++ [.ref g2]) (ys := vs.drop (i + 1)) (U4 _ _ hq2) upd_same (by rw [List.length_append, List.length_take, List.length_drop]; exact sz_le (by simp; omega)) fun q4 H10 U5 hq4 => ?_
    refine ⟨(by show 2 ≤ sizeLine; decide), fun r nr => ⟨(by show 2 ≤ sizeLine; decide), fun r2 nr2 => ?_⟩⟩
    have Ux := U1.trans ((U2.trans U3).trans (U4.trans U5))
    have Uy := same_new (o := .lst [.non, .ref r]) (same_new (o := .tup [.ref a, .ref q4]) Ux nr) nr2
    have tka := (TK.new (o := .tup [.ref a, .ref q4]) nr).trans (TK.new (o := .lst [.non, .ref r]) nr2)
    have ets : ts = ts.take i ++ (t4.1, t4.2.1, t4.2.2) :: ts.drop (i + 1) := by
      have hl := (List.getElem?_eq_some_iff.mp ht3).1
      have he' := (List.getElem?_eq_some_iff.mp ht3).2
      conv => lhs; rw [← List.take_append_drop i ts, List.drop_eq_getElem_cons hl, he']
    have it' : IsTree pl (ts.take i ++ [(t4.1, t4.2.1, k)] ++ ts.drop (i + 1)) := by
      have := G.it
      rw [ets] at this
      exact this.other k1' k2'
    refine q _ r2 (.ref r) pl (ts.take i ++ [(t4.1, t4.2.1, k)] ++ ts.drop (i + 1)) upd_same (.tup ((TK.new nr2).tup _ _ upd_same) (.cons (names_dt ((ha7.same Uy)) pne) (.cons (.tup (tka.tup _ _ hq4) ?_) .nil))) ⟨r, a, q4, oz, rfl, (TK.new nr2).tup _ _ upd_same, odz, Uy _ _ (tk7.frz _ _ _ (tk6.frz _ _ _ (k2.frz _ _ _ hfz)))⟩ (hK7.same Uy) ⟨it', G.ok, G.len⟩ ?_ ?_ ?_
    · have hAy := DtAll.keep (TK.of Uy) hA7
      rw [List.map_append, List.map_append]
      refine DtAll.app (DtAll.app ?_ (.cons (.tup (tka.tup _ _ ((U3.trans (U4.trans U5)) _ _ hg2)) (.cons (.str _) (.cons (.str _) (.cons (.int _) .nil)))) .nil)) ?_
      · rw [List.map_take]
        exact (DtAll.cut i hAy).1
      · rw [List.map_drop]
        exact (DtAll.cut (i + 1) hAy).2
    · exact ((SD2.trans (SmD.of SX6)).trans (SmD.of2 S7)).trans (SmD.of (SmX.of Uy))
    · exact (k2.trans tk6).trans (tk7.trans (TK.of Uy))
    · exact (D7.same Uy).mono (by omega)
end
end Far

namespace Far
open PySem PySem.Spec PyProof.Rows L2
open SX (S)
theorem Good.fine {pl : List Nm} {ts : List Tie} (g : Good pl ts) : Fine pl ts := ⟨g.it, g.ok, by have := g.len; omega⟩
/-! ### the greatest length -/
theorem pair_mem {pl : List Nm} {ts : List Tie} {i j : Nat} {x y : Nm} (hx : pl[i]? = some x) (hy : pl[j]? = some y) (ij : i < j) : (dist ts x y, x, y) ∈ pairsOf pl ts := by
  unfold pairsOf prs
  have il := (List.getElem?_eq_some_iff.mp hx).1
  refine List.mem_flatMap.mpr ⟨i, List.mem_range.mpr il, ?_⟩
  obtain ⟨k, rfl⟩ : ∃ k, j = i + 1 + k := ⟨j - (i + 1), by omega⟩
  exact List.mem_of_getElem? (rowP_at hx hy)
theorem top_ge (pl : List Nm) (ts : List Tie) : 0 ≤ (topOf pl ts).1 ∧ ∀ y ∈ pairsOf pl ts, y.1 ≤ (topOf pl ts).1 := by
  unfold topOf
  rcases topT_is (pairsOf pl ts) (0, pl.headD [], pl.headD []) with ⟨h1, h2⟩ | ⟨h1, _, h3⟩
  · rw [h1]
    exact ⟨Int.le_refl _, h2⟩
  · exact ⟨Int.le_of_lt h1, h3⟩
theorem top_max {pl : List Nm} {ts : List Tie} (F : Fine pl ts) {u v : Nm} (hu : u ∈ pl) (hv : v ∈ pl) : dist ts u v ≤ (topOf pl ts).1 := by
  obtain ⟨z, all⟩ := top_ge pl ts
  obtain ⟨i, hi⟩ := List.getElem?_of_mem hu
  obtain ⟨j, hj⟩ := List.getElem?_of_mem hv
  rcases Nat.lt_trichotomy i j with h | h | h
  · exact all _ (pair_mem hi hj h)
  · subst h
    have e : u = v := Option.some.inj (hi.symm.trans hj)
    rw [e, (F.tree.dist_self v).1]
    exact z
  · rw [(F.tree.dist_symm hu hv).1]
    exact all _ (pair_mem hj hi h)
theorem top_eq {pl pl' : List Nm} {ts ts' : List Tie} (F : Fine pl ts) (F' : Fine pl' ts') (h1 : ∀ u ∈ pl', u ∈ pl) (h2 : ∀ u ∈ pl, u ∈ pl') (hd : ∀ u ∈ pl', ∀ v ∈ pl', dist ts' u v = dist ts u v) : (topOf pl' ts').1 = (topOf pl ts).1 := by
  obtain ⟨a1, a2, a3⟩ := top_in F
  obtain ⟨b1, b2, b3⟩ := top_in F'
  have a3 : (topOf pl ts).1 = dist ts (topOf pl ts).2.1 (topOf pl ts).2.2 := a3
  have b3 : (topOf pl' ts').1 = dist ts' (topOf pl' ts').2.1 (topOf pl' ts').2.2 := b3
  have a4 : (topOf pl ts).2.1 ∈ pl := a1
  have a5 : (topOf pl ts).2.2 ∈ pl := a2
  have b4 : (topOf pl' ts').2.1 ∈ pl' := b1
  have b5 : (topOf pl' ts').2.2 ∈ pl' := b2
  refine Int.le_antisymm ?_ ?_
  · rw [b3, hd _ b4 _ b5]
    exact top_max F (h1 _ b4) (h1 _ b5)
  · rw [a3, ← hd _ (h2 _ a4) _ (h2 _ a5)]
    exact top_max F' (h2 _ a4) (h2 _ a5)
/-! ### ties that are among others -/
def Among (es ts : List Tie) : Prop := ∀ x y k, Adj es x y k → Adj ts x y k
theorem Way.among {es ts : List Tie} (s : Among es ts) {u v : Nm} {p : List Nm} {L : Int} (h : Way es u v p L) : Way ts u v p L := by
  induction h with
  | nil => exact .nil
  | snoc _ ha hn ih => exact .snoc ih (s _ _ _ ha) hn
theorem dist_among {hs pl : List Nm} {es ts : List Tie} (h : IsTree hs es) (h' : IsTree pl ts) (s : Among es ts) {u v : Nm} (hu : u ∈ hs) (hv : v ∈ hs) : dist es u v = dist ts u v := ((h'.is_way ((h.the_way hu hv).among s)).2).symm
theorem Among.more {es ts : List Tie} {a n : Nm} {k : Int} (s : Among es ts) (h : Adj ts a n k) : Among (es ++ [(a, n, k)]) ts := fun x y l z => by
  rcases z with z | z <;> rcases List.mem_append.mp z with z | z
  · exact s x y l (.inl z)
  · cases List.mem_singleton.mp z
    exact h
  · exact s x y l (.inr z)
  · cases List.mem_singleton.mp z
    exact h.symm
/-! ### lengths doubled -/
def dbl (e : Tie) : Tie := (e.1, e.2.1, 2 * e.2.2)
theorem Adj.dbl {ts : List Tie} {u v : Nm} {k : Int} (h : Adj ts u v k) : Adj (ts.map dbl) u v (2 * k) := h.elim (fun z => .inl (List.mem_map.mpr ⟨_, z, rfl⟩)) fun z => .inr (List.mem_map.mpr ⟨_, z, rfl⟩)
theorem Way.dbl {ts : List Tie} {u v : Nm} {p : List Nm} {L : Int} (h : Way ts u v p L) : Way (ts.map dbl) u v p (2 * L) := by
  induction h with
  | nil => exact .nil
  | @snoc v w p L k _ ha hn ih =>
    rw [Int.mul_add]
    exact .snoc ih ha.dbl hn
section
variable {pl : List Nm} {ts : List Tie}
theorem way_dbl (h : IsTree pl ts) (h' : IsTree pl (ts.map dbl)) {u v : Nm} (hu : u ∈ pl) (hv : v ∈ pl) : path (ts.map dbl) u v = path ts u v ∧ dist (ts.map dbl) u v = 2 * dist ts u v := h'.is_way (h.the_way hu hv).dbl
def two (x : Tri) : Tri := (2 * x.1, x.2)
theorem fm_congr {α β : Type} {f g : α → List β} : ∀ {l : List α}, (∀ x ∈ l, f x = g x) → l.flatMap f = l.flatMap g
  | [], _ => rfl
  | x :: r, h => by rw [List.flatMap_cons, List.flatMap_cons, h x List.mem_cons_self, fm_congr fun y hy => h y (List.mem_cons_of_mem _ hy)]
theorem prs_dbl (h : IsTree pl ts) (h' : IsTree pl (ts.map dbl)) : pairsOf pl (ts.map dbl) = (pairsOf pl ts).map two := by
  unfold pairsOf prs
  rw [List.map_flatMap]
  refine fm_congr fun i hi => ?_
  have il := List.mem_range.mp hi
  unfold rowP
  rw [List.map_map]
  refine List.map_congr_left fun y hy => ?_
  have yp := List.mem_of_mem_drop hy
  have xp : pl.getD i [] ∈ pl := by
    rw [List.getD, List.getElem?_eq_getElem il]
    exact List.getElem_mem _
  rw [(way_dbl h h' xp yp).2]
  rfl
theorem topT_two : ∀ (ps : List Tri) (m : Tri), topT (two m) (ps.map two) = two (topT m ps)
  | [], _ => rfl
  | y :: r, m => by
    have e1 : topT m (y :: r) = topT (if y.1 > m.1 then y else m) r := rfl
    have e2 : topT (two m) ((y :: r).map two) = topT (if (two y).1 > (two m).1 then two y else two m) (r.map two) := rfl
    rw [e1, e2, ← topT_two r]
    by_cases c : y.1 > m.1
    · rw [if_pos c, if_pos (by show 2 * y.1 > 2 * m.1; omega)]
    · rw [if_neg c, if_neg (by show ¬ 2 * y.1 > 2 * m.1; omega)]
theorem topOf_dbl (h : IsTree pl ts) (h' : IsTree pl (ts.map dbl)) : topOf pl (ts.map dbl) = two (topOf pl ts) := by
  unfold topOf
  rw [prs_dbl h h', ← topT_two]
  rfl
theorem cutIx_two : ∀ (g : List Int) (W : Int), cutIx (g.map fun z => 2 * z) (2 * W) = cutIx g W
  | [], _ => rfl
  | z :: r, W => by
    have ih := cutIx_two r W
    unfold cutIx at *
    rw [List.map_cons, List.filter_cons, List.filter_cons]
    by_cases c : 2 * z < W
    · rw [if_pos (decide_eq_true (by omega)), if_pos (decide_eq_true c), List.length_cons, List.length_cons, ih]
    · rw [if_neg (fun y => c (by have := of_decide_eq_true y; omega)), if_neg (fun y => c (of_decide_eq_true y)), ih]
theorem mid_dbl (h : IsTree pl ts) (h' : IsTree pl (ts.map dbl)) {u x : Nm} (hu : u ∈ pl) (hx : x ∈ pl) : hi (ts.map dbl) u x = hi ts u x ∧ lo (ts.map dbl) u x = lo ts u x := by
  have w := h.the_way hu hx
  have ins := w.inside (fun e he => ⟨(h.ties e he).1, (h.ties e he).2.1⟩) hu
  obtain ⟨e1, e2⟩ := way_dbl h h' hu hx
  have eg : goneOf (ts.map dbl) u x = (goneOf ts u x).map fun z => 2 * z := by
    unfold goneOf
    rw [e1, List.map_map]
    exact List.map_congr_left fun y hy => (way_dbl h h' hu (ins y hy)).2
  have ek : midK (ts.map dbl) u x = midK ts u x := by
    unfold midK
    rw [eg, e2, cutIx_two]
  unfold hi lo
  rw [e1, ek]
  exact ⟨rfl, rfl⟩
theorem half_no (n : Int) (l : Nm) : halfD n ≠ strD l := fun z => by
  unfold halfD at z
  split at z <;> cases z
theorem point_dbl (h : IsTree pl ts) (h' : IsTree pl (ts.map dbl)) {u x : Nm} (hu : u ∈ pl) (hx : x ∈ pl) : ∃ (a b : Nm) (c c' : PyData), a ∈ pl ∧ b ∈ pl ∧ (∀ l : Nm, c ≠ strD l) ∧ (∀ l : Nm, c' ≠ strD l) ∧ pointD pl ts u x = .tuple [strD a, strD b, c] ∧ pointD pl (ts.map dbl) u x = .tuple [strD a, strD b, c'] := by
  have w := h.the_way hu hx
  have ins := w.inside (fun e he => ⟨(h.ties e he).1, (h.ties e he).2.1⟩) hu
  have mf := mid_facts h hu hx
  have hm := ins _ mf.hiM
  obtain ⟨e1, e2⟩ := way_dbl h h' hu hx
  obtain ⟨m1, m2⟩ := mid_dbl h h' hu hx
  unfold pointD
  rw [m1, m2, e2, (way_dbl h h' hu hm).2]
  by_cases c : 2 * dist ts u (hi ts u x) = dist ts u x
  · rw [if_pos c, if_pos (by omega)]
    exact ⟨_, _, .tuple [.int 0, .int 1], .tuple [.int 0, .int 1], hm, hm, (by intro l z; cases z), (by intro l z; cases z), rfl, rfl⟩
  · have lm := ins _ (mf.loE c).2.2.1
    have c' : ¬ 2 * (2 * dist ts u (hi ts u x)) = 2 * dist ts u x := by omega
    rw [if_neg c, if_neg c']
    by_cases c2 : pl.idxOf (lo ts u x) < pl.idxOf (hi ts u x)
    · rw [if_pos c2, if_pos c2]
      exact ⟨_, _, _, _, lm, hm, half_no _, half_no _, rfl, rfl⟩
    · rw [if_neg c2, if_neg c2]
      exact ⟨_, _, _, _, hm, lm, half_no _, half_no _, rfl, rfl⟩
end
/-! ### a leaf put and taken again -/
theorem put_take {pl : List Nm} {ts : List Tie} {x nm : Nm} {k : Int} (h : IsTree pl ts) (hx : x ∈ pl) (hn : nm ∉ pl) : but (pl ++ [nm]) nm = pl ∧ rem (ts ++ [(x, nm, k)]) nm = ts ∧ deg (ts ++ [(x, nm, k)]) nm = 1 := by
  have no : ∀ e ∈ ts, e.1 ≠ nm ∧ e.2.1 ≠ nm := fun e he => ⟨fun z => hn (z ▸ (h.ties e he).1), fun z => hn (z ▸ (h.ties e he).2.1)⟩
  have xn : x ≠ nm := fun z => hn (z ▸ hx)
  refine ⟨?_, ?_, ?_⟩
  · rw [but_app, but_all hn]
    simp [but]
  · rw [rem_app, rem_all no]
    simp [rem]
  · rw [deg_app, deg_zero no, deg_one]
    simp [xn]
end Far

namespace Far
open PySem PySem.Spec PyProof.Rows L2
open C8 (pss_cut tCut)
open SX (S)
theorem path_le {pl : List Nm} {ts : List Tie} (F : Fine pl ts) {u x : Nm} (hu : u ∈ pl) (hx : x ∈ pl) : (path ts u x).length ≤ pl.length := by
  have w := F.tree.the_way hu hx
  exact nodup_sub_len _ pl w.nodup (w.inside (fun e he => let ⟨a, b, _⟩ := F.tree.ties e he; ⟨a, b⟩) hu)
abbrev s_law_lengths : Stmt := topS 34
abbrev N_law_lengths : List Str := ["tree", "place", "found", "turn", "one", "other", "length", "here", "there"]
theorem sc_law_lengths : FnScope N_law_lengths ["tree", "place"] (defScope s_law_lengths) := ⟨rfl, rfl, rfl, by decide +kernel, rfl, by decide +kernel, by decide +kernel⟩
/-- fs: places come to, with all that lie on their ways -/
structure Kn (pl : List Nm) (ts : List Tie) (u : Nm) (fs : List Nm) : Prop where
  nd : fs.Nodup
  sub : ∀ x ∈ fs, x ∈ pl
  hu : u ∈ fs
  cl : ∀ x ∈ fs, ∀ y ∈ path ts u x, y ∈ fs
theorem Kn.push {pl : List Nm} {ts : List Tie} (tr : IsTree pl ts) {u h y : Nm} {k : Int} {fs : List Nm} (w : Kn pl ts u fs) (hh : h ∈ fs) (ha : Adj ts h y k) (hy : y ∉ fs) : dist ts u y = dist ts u h + k ∧ path ts u y = path ts u h ++ [y] ∧ Kn pl ts u (fs ++ [y]) := by
  have wh := tr.the_way (w.sub u w.hu) (w.sub h hh)
  have wy := Way.snoc wh ha fun z => hy (w.cl h hh y z)
  obtain ⟨e1, e2⟩ := tr.is_way wy
  have yp : y ∈ pl := by
    rcases ha with z | z
    · exact (tr.ties _ z).2.1
    · exact (tr.ties _ z).1
  refine ⟨e2, e1, nd_snoc' w.nd hy, fun x hx => ?_, List.mem_append_left _ w.hu, fun x hx z hz => ?_⟩
  · rcases List.mem_append.mp hx with z | z
    · exact w.sub x z
    · rw [List.mem_singleton.mp z]
      exact yp
  · rcases List.mem_append.mp hx with q | q
    · exact List.mem_append_left _ (w.cl x q z hz)
    · rw [List.mem_singleton.mp q, e1] at hz
      rcases List.mem_append.mp hz with r | r
      · exact List.mem_append_left _ (w.cl h hh z r)
      · exact List.mem_append_right _ r
/-- all places at most so many behind the first are come to -/
def Rd (pl : List Nm) (ts : List Tie) (u : Nm) (r : Nat) (fs : List Nm) : Prop := ∀ x ∈ pl, (path ts u x).length ≤ r + 1 → x ∈ fs
def NbG (l : List Tie) (ts : List Tie) (u : Nm) (r : Nat) (fs : List Nm) : Prop := ∀ e ∈ l, ((path ts u e.1).length ≤ r + 1 → e.2.1 ∈ fs) ∧ ((path ts u e.2.1).length ≤ r + 1 → e.1 ∈ fs)
theorem Rd.more {pl : List Nm} {ts : List Tie} {u y : Nm} {r : Nat} {fs : List Nm} (h : Rd pl ts u r fs) : Rd pl ts u r (fs ++ [y]) := fun x hx l => List.mem_append_left _ (h x hx l)
theorem Rd.next {pl : List Nm} {ts : List Tie} (tr : IsTree pl ts) {u : Nm} (hu : u ∈ pl) {r : Nat} {fs : List Nm} (h : Rd pl ts u r fs) (n : NbG ts ts u r fs) : Rd pl ts u (r + 1) fs := fun x hx l => by
  by_cases q : (path ts u x).length ≤ r + 1
  · exact h x hx q
  have w := tr.the_way hu hx
  generalize hp : path ts u x = p at w q l
  generalize dist ts u x = L at w
  cases w with
  | nil => exact absurd (show [u].length ≤ r + 1 by simp) q
  | @snoc v w p L k w1 ha hn =>
    have e1 := (tr.is_way w1).1
    rw [List.length_append, List.length_singleton] at l
    rcases ha with z | z
    · exact (n _ z).1 (by rw [e1]; omega)
    · exact (n _ z).2 (by rw [e1]; omega)
structure WaysAt (H0 H' : Hp) (D : Addr) (ts : List Tie) (u : Nm) (fs : List Nm) (ad pw : Nm → Addr) : Prop where
  same : Same H0 H'
  new : H0 D = none
  dict : H' D = some (.dK (dkm fs fun x => .ref (ad x)))
  val : ∀ x ∈ fs, H' (ad x) = some (.tup [.ref (pw x), .int (dist ts u x)]) ∧ H' (pw x) = some (.tup (((path ts u x).map S).map V.str))
theorem WaysAt.keep {H0 H' H1 : Hp} {D : Addr} {ts : List Tie} {u : Nm} {fs : List Nm} {ad pw : Nm → Addr} (w : WaysAt H0 H' D ts u fs ad pw) (s : Same H' H1) : WaysAt H0 H1 D ts u fs ad pw :=
  ⟨w.same.trans s, w.new, s _ _ w.dict, fun x hx => ⟨s _ _ (w.val x hx).1, s _ _ (w.val x hx).2⟩⟩
theorem WaysAt.add {H0 H' : Hp} {D p q : Addr} {ts : List Tie} {u y : Nm} {n : Int} {fs : List Nm} {ad pw : Nm → Addr} (w : WaysAt H0 H' D ts u fs ad pw) (hy : y ∉ fs) (e : dist ts u y = n) (hq : H' q = some (.tup [.ref p, .int n])) (hp : H' p = some (.tup (((path ts u y).map S).map V.str))) :
    WaysAt H0 (upd H' D (.dK (dkm (fs ++ [y]) fun z => if z = y then V.ref q else .ref (ad z)))) D ts u (fs ++ [y]) (fun z => if z = y then q else ad z) (fun z => if z = y then p else pw z) := by
  have nt : ∀ {b : Addr} {xs : List V}, H' b = some (.tup xs) → b ≠ D := fun h => ne_of h w.dict (by intro z; cases z)
  refine ⟨same_put w.same w.new, w.new, ?_, fun x hx => ?_⟩
  · rw [upd_same]
    refine congrArg (fun z => some (HO.dK z)) (dkm_cong fun z _ => ?_)
    by_cases h : z = y
    · rw [if_pos h, if_pos h]
    · rw [if_neg h, if_neg h]
  · rcases List.mem_append.mp hx with z | z
    · have xy : x ≠ y := fun r => hy (r ▸ z)
      obtain ⟨v1, v2⟩ := w.val x z
      show upd H' D _ (if x = y then q else ad x) = some (.tup [.ref (if x = y then p else pw x), _]) ∧ upd H' D _ (if x = y then p else pw x) = _
      rw [if_neg xy, if_neg xy, upd_ne (nt v1), upd_ne (nt v2)]
      exact ⟨v1, v2⟩
    · have xy := List.mem_singleton.mp z
      show upd H' D _ (if x = y then q else ad x) = some (.tup [.ref (if x = y then p else pw x), _]) ∧ upd H' D _ (if x = y then p else pw x) = _
      rw [if_pos xy, if_pos xy, upd_ne (nt hq), upd_ne (nt hp), xy, e]
      exact ⟨hq, hp⟩
structure TxtL (mg : Str → Option Value) : Prop where
  range : mg "range" = none
  len : mg "len" = none
section
variable {P : Program} {w : World} {K : PySem.W.Frag} {mg : Str → Option Value} {base : Heap}
def spWaysTo : Sp := fun vs H Q _ => ∃ (v : V) (pl : List Nm) (ts : List Tie) (u : Nm), vs = [v, .str (S u)] ∧ Dt H v (treeD pl ts) ∧ Fine pl ts ∧ u ∈ pl ∧ ∀ (H' : Hp) (D : Addr) (fs : List Nm) (ad pw : Nm → Addr), WaysAt H H' D ts u fs ad pw → (∀ x ∈ pl, x ∈ fs) → Q (.ref D) H'
theorem ok_ways_to {f : Addr} {fd : FuncData} (F : Fun K "_law_lengths" "_law_lengths" s_law_lengths f fd) (T : TxtL mg) : FnOk P w K mg base CX0 2 f fd ["tree", "place"] spWaysTo := by
  refine F.ok sc_law_lengths (fun vs H Q E h => ?_) (fun cdv A outer s H vs Q E hr h => ?_)
  · obtain ⟨v, pl, ts, u, rfl, _⟩ := h
    rfl
  · obtain ⟨v, pl, ts, u, rfl, hd, fine, hu, q⟩ := h
    obtain ⟨t, a, b, vs, rfl, ht, ha, hb, hA⟩ := dt_tree hd
    have tr := fine.tree
    have pl1 := fine.len
    have sqn : ((pl.map S).map V.str).length = pl.length := by rw [List.length_map, List.length_map]
    have vl : vs.length = ts.length := by
      have := DtAll.len hA
      rwa [List.length_map] at this
    refine ⟨_, (pss_cons (ps_set (i := 2) sc_law_lengths.nd rfl (.inl rfl) (pe_disp (pps_cons (pv 1) (pe_tup (pa_cons (pe_tup (pa_cons (pv 1) pa_nil)) (pa_cons pe_int pa_nil))) pps_nil) (by rfl) (by rfl) (fun z => by cases z) (by decide)))
      (pss_cut (ps_for PassesOwn.never rfl (pi_range1 (by rfl) T.range (pa_cons (pe_callB call_len_seq (by rfl) T.len bt_len (pa_cons (pe_ix ix_tup (pv 0) pe_int (fun _ _ => rfl)) pa_nil)) pa_nil)) (pg_name (i := 3) sc_law_lengths.nd rfl (.inl rfl))
        (pss_one (ps_for PassesOwn.never rfl (pi_tup (pe_ix ix_tup (pv 0) pe_int (fun _ _ => rfl))) (pg_tup rfl (pgs_cons (pg_name (i := 4) sc_law_lengths.nd rfl (.inl rfl)) (pgs_cons (pg_name (i := 5) sc_law_lengths.nd rfl (.inl rfl)) (pgs_cons (pg_name (i := 6) sc_law_lengths.nd rfl (.inl rfl)) pgs_nil))))
          (pss_one (ps_for PassesOwn.never rfl (pi_list (pe_lst (pa_cons (pe_tup (pa_cons (pv 4) (pa_cons (pv 5) pa_nil))) (pa_cons (pe_tup (pa_cons (pv 5) (pa_cons (pv 4) pa_nil))) pa_nil)))) (pg_tup rfl (pgs_cons (pg_name (i := 7) sc_law_lengths.nd rfl (.inl rfl)) (pgs_cons (pg_name (i := 8) sc_law_lengths.nd rfl (.inl rfl)) pgs_nil)))
            (pss_one (ps_if (PW.pt (pw_and (pt_cmp (pc_din (hu_of hr) (pv 7) (pv 2))) (pw_and1 (pt_cmp (pc_dnotin (hu_of hr) (pv 8) (pv 2))))))
              (pss_one (ps_dput (hu_of hr) (pv 2) (pv 8) (pe_tup (pa_cons (pe_op op_catA (pe_ix ix_tup (pe_dget (hu_of hr) (pv 2) (pv 7) (fun _ _ => rfl)) pe_int (fun _ _ => rfl)) (pe_tup (pa_cons (pv 8) pa_nil))) (pa_cons (pe_op op_add (pe_ix ix_tup (pe_dget (hu_of hr) (pv 2) (pv 7) (fun _ _ => rfl)) pe_int (fun _ _ => rfl)) (pv 6)) pa_nil))) rfl))
              pss_nil)))))))
      (pss_one (ps_ret (pv 2))))), ?_⟩
    refine fun D nD => ?_
    refine ⟨_, rfl, _, rfl, (by show 1 ≤ sizeLine; decide), fun p np => ?_⟩
    refine ⟨(by show 2 ≤ sizeLine; decide), fun r nr => ?_⟩
    have S1 := same_new (o := .dK []) (Same.refl H) nD
    have S2 := same_new (o := .tup [.str (S u)]) S1 np
    have S3 := same_new (o := .tup [.ref p, .int 0]) S2 nr
    have pD : p ≠ D := (ne_of_none upd_same np).symm
    have hp3 : (upd (upd (upd H D (.dK [])) p (.tup [.str (S u)])) r (.tup [.ref p, .int 0])) p = some (.tup [.str (S u)]) := (TK.new nr).tup _ _ upd_same
    have hr3 : (upd (upd (upd H D (.dK [])) p (.tup [.str (S u)])) r (.tup [.ref p, .int 0])) r = some (.tup [.ref p, .int 0]) := upd_same
    have hD3 : (upd (upd (upd H D (.dK [])) p (.tup [.str (S u)])) r (.tup [.ref p, .int 0])) D = some (.dK []) := by
      have z : (upd (upd H D (.dK [])) p (.tup [.str (S u)])) D = some (.dK []) := by
        rw [upd_ne pD.symm]
        exact upd_same
      rw [upd_ne (ne_of_none z nr)]
      exact z
    generalize upd (upd (upd H D (.dK [])) p (.tup [.str (S u)])) r (.tup [.ref p, .int 0]) = H3 at S3 hp3 hr3 hD3
    refine ⟨hD3, [(Sum.inr (S u), .ref r)], rfl, (by decide : 1 ≤ 15), ?_⟩
    have W0 : WaysAt H (upd H3 D (.dK (mergeK [] [((Sum.inr (S u) : Key), V.ref r)]))) D ts u [u] (fun _ => r) (fun _ => p) := by
      have nt : ∀ {b : Addr} {xs : List V}, H3 b = some (.tup xs) → b ≠ D := fun h => ne_of h hD3 (by intro z; cases z)
      refine ⟨same_put S3 nD, nD, upd_same, fun x hx => ?_⟩
      rw [List.mem_singleton.mp hx, (tr.dist_self u).1, (tr.dist_self u).2, upd_ne (nt hr3), upd_ne (nt hp3)]
      exact ⟨hr3, hp3⟩
    have K0 : Kn pl ts u [u] := by
      refine ⟨by simp, fun x hx => ?_, by simp, fun x hx => ?_⟩
      · rw [List.mem_singleton.mp hx]
        exact hu
      · rw [List.mem_singleton.mp hx, (tr.dist_self u).2]
        exact fun y hy => hy
    have R0 : Rd pl ts u 0 [u] := fun x hx l => by
      have w := tr.the_way hu hx
      generalize path ts u x = p at w l
      generalize dist ts u x = L at w
      cases w with
      | nil => simp
      | @snoc v w p L k w1 ha hn =>
        obtain ⟨z, rfl⟩ := w1.first
        simp at l
    generalize upd H3 D (.dK (mergeK [] [((Sum.inr (S u) : Key), V.ref r)])) = H4 at W0
    refine ⟨fun σ' H' => ∃ (x3 x4 x5 x6 x7 x8 : Option V) (fs : List Nm) (ad pw : Nm → Addr), σ' = [some (.ref t), some (.str (S u)), some (.ref D), x3, x4, x5, x6, x7, x8] ∧ WaysAt H H' D ts u fs ad pw ∧ Kn pl ts u fs ∧ Rd pl ts u pl.length fs, ?_, fun σ' H' hM => ?_⟩
    · refine ⟨_, rfl, t, _, 0, .ref a, rfl, rfl, SqT.of (W0.same _ _ ht), atI_nat (j := 0) rfl, a, _, rfl, .inr (ha.same W0.same).sq, _, rfl, by rw [sqn]; omega, by rw [sqn]; omega, ?_⟩
      refine for_range (lo := 0) (n := (((((pl.map S).map V.str).length : Nat) : Int)).toNat) (fun i σ' H' => ∃ (x3 x4 x5 x6 x7 x8 : Option V) (fs : List Nm) (ad pw : Nm → Addr), σ' = [some (.ref t), some (.str (S u)), some (.ref D), x3, x4, x5, x6, x7, x8] ∧ WaysAt H H' D ts u fs ad pw ∧ Kn pl ts u fs ∧ Rd pl ts u i fs) ⟨none, none, none, none, none, none, _, _, _, rfl, W0, K0, R0⟩ (fun i σ' H' hi hP => ?_) (fun σ' H' hP => ?_)
      · obtain ⟨x3, x4, x5, x6, x7, x8, fs, ad, pw, rfl, W1, K1, R1⟩ := hP
        refine ⟨_, rfl, t, _, 1, .ref b, rfl, rfl, SqT.of (W1.same _ _ ht), atI_nat (j := 1) rfl, b, rfl, ⟨_, SqT.of (W1.same _ _ hb)⟩, for_tup (K := K) (a := b) (xs := vs) (fun j σ' H' => ∃ (x4 x5 x6 x7 x8 : Option V) (fs : List Nm) (ad pw : Nm → Addr), σ' = [some (.ref t), some (.str (S u)), some (.ref D), some (.int (0 + (i : Int))), x4, x5, x6, x7, x8] ∧ WaysAt H H' D ts u fs ad pw ∧ Kn pl ts u fs ∧ Rd pl ts u i fs ∧ NbG (ts.take j) ts u i fs)
          ⟨_, _, _, _, _, fs, ad, pw, rfl, W1, K1, R1, fun e he => (by cases he)⟩ (fun j σ' H' _ hP => ?_) (fun j x σ' H' hj hP => ?_) (fun σ' H' hP => ?_)⟩
        · obtain ⟨_, _, _, _, _, _, _, _, _, W2, _⟩ := hP
          exact SqT.of (W2.same _ _ hb)
        · clear W1 K1 R1
          clear fs ad pw
          obtain ⟨x4, x5, x6, x7, x8, fs, ad, pw, rfl, W2, K2', R2', nb⟩ := hP
          obtain ⟨d, hd', hx⟩ := DtAll.get hA hj
          rw [List.getElem?_map] at hd'
          cases ee : ts[j]? with
          | none =>
            rw [ee] at hd'
            cases hd'
          | some e =>
            rw [ee] at hd'
            have ed : d = tieD e := (Option.some.inj hd').symm
            subst ed
            obtain ⟨g, rfl, hg⟩ := dt_tie hx
            have hem : e ∈ ts := List.mem_of_getElem? ee
            obtain ⟨i1, i2, _⟩ := tr.ties e hem
            have et : ts.take (j + 1) = ts.take j ++ [e] := by
              rw [List.take_add_one, ee]
              rfl
            refine ⟨g, _, rfl, SqT.of (W2.same _ _ hg), rfl, _, _, rfl, _, _, rfl, _, _, rfl, rfl, ?_⟩
            refine ⟨_, rfl, _, rfl, (by show 2 ≤ sizeLine; decide), fun c1 nc1 => ?_⟩
            have T1 := same_new (o := .tup [.str (S e.1), .str (S e.2.1)]) (Same.refl H') nc1
            refine ⟨_, rfl, _, rfl, (by show 2 ≤ sizeLine; decide), fun c2 nc2 => ?_⟩
            have T2 := same_new (o := .tup [.str (S e.2.1), .str (S e.1)]) T1 nc2
            refine ⟨(by show 2 ≤ sizeLine; decide), fun c3 nc3 => ?_⟩
            have T3 := same_new (o := .lst [.ref c1, .ref c2]) T2 nc3
            have h1 : (upd (upd (upd H' c1 (.tup [.str (S e.1), .str (S e.2.1)])) c2 (.tup [.str (S e.2.1), .str (S e.1)])) c3 (.lst [.ref c1, .ref c2])) c1 = some (.tup [.str (S e.1), .str (S e.2.1)]) := ((TK.new nc2).trans (TK.new nc3)).tup _ _ upd_same
            have h2 : (upd (upd (upd H' c1 (.tup [.str (S e.1), .str (S e.2.1)])) c2 (.tup [.str (S e.2.1), .str (S e.1)])) c3 (.lst [.ref c1, .ref c2])) c2 = some (.tup [.str (S e.2.1), .str (S e.1)]) := (TK.new nc3).tup _ _ upd_same
            have h3 : (upd (upd (upd H' c1 (.tup [.str (S e.1), .str (S e.2.1)])) c2 (.tup [.str (S e.2.1), .str (S e.1)])) c3 (.lst [.ref c1, .ref c2])) c3 = some (.lst [.ref c1, .ref c2]) := upd_same
            have W8 := W2.keep T3
            generalize upd (upd (upd H' c1 (.tup [.str (S e.1), .str (S e.2.1)])) c2 (.tup [.str (S e.2.1), .str (S e.1)])) c3 (.lst [.ref c1, .ref c2]) = H8 at W8 h1 h2 h3
            have c3D : c3 ≠ D := ne_of h3 W8.dict (by intro z; cases z)
            have c1D : c1 ≠ D := ne_of h1 W8.dict (by intro z; cases z)
            have c2D : c2 ≠ D := ne_of h2 W8.dict (by intro z; cases z)
            refine ⟨c3, rfl, ⟨_, SqL.of h3⟩, for_list (K := K) (a := c3) (xs := [.ref c1, .ref c2]) (fun k σ' H9 => ∃ (x7 x8 : Option V) (fs : List Nm) (ad pw : Nm → Addr), σ' = [some (.ref t), some (.str (S u)), some (.ref D), some (.int (0 + (i : Int))), some (.str (S e.1)), some (.str (S e.2.1)), some (.int e.2.2), x7, x8] ∧ WaysAt H H9 D ts u fs ad pw ∧ SmX D H8 H9 ∧ Kn pl ts u fs ∧ Rd pl ts u i fs ∧ NbG (ts.take j) ts u i fs ∧ (1 ≤ k → (path ts u e.1).length ≤ i + 1 → e.2.1 ∈ fs) ∧ (2 ≤ k → (path ts u e.2.1).length ≤ i + 1 → e.1 ∈ fs))
              ⟨_, _, fs, ad, pw, rfl, W8, SmX.refl _, K2', R2', nb, fun z => absurd z (by omega), fun z => absurd z (by omega)⟩ (fun k σ' H9 _ hP => ?_) (fun k x σ' H9 hk hP => ?_) (fun σ' H9 hP => ?_)⟩
            · obtain ⟨_, _, _, _, _, _, _, sm, _⟩ := hP
              exact SqL.of (sm _ _ c3D h3)
            · clear W2 W8 K2' R2' nb
              clear fs ad pw
              obtain ⟨x7, x8, fs, ad, pw, rfl, W9, sm9, K9, R9, nb9, n1, n2⟩ := hP
              obtain ⟨cc, pp, qq, rfl, ccD, hcc, hpq⟩ : ∃ (cc : Addr) (pp qq : Nm), x = .ref cc ∧ cc ≠ D ∧ H8 cc = some (.tup [.str (S pp), .str (S qq)]) ∧ ((k = 0 ∧ pp = e.1 ∧ qq = e.2.1) ∨ (k = 1 ∧ pp = e.2.1 ∧ qq = e.1)) := by
                match k, hk with
                | 0, hk => exact ⟨c1, _, _, (Option.some.inj hk).symm, c1D, h1, .inl ⟨rfl, rfl, rfl⟩⟩
                | 1, hk => exact ⟨c2, _, _, (Option.some.inj hk).symm, c2D, h2, .inr ⟨rfl, rfl, rfl⟩⟩
              have adj : Adj ts pp qq e.2.2 := by
                rcases hpq with ⟨_, z1, z2⟩ | ⟨_, z1, z2⟩ <;> rw [z1, z2]
                · exact .inl hem
                · exact .inr hem
              have ppl : pp ∈ pl := by
                rcases hpq with ⟨_, z1, z2⟩ | ⟨_, z1, z2⟩ <;> rw [z1] <;> assumption
              have fl' := nodup_sub_len fs pl K9.nd K9.sub
              have szf : ∀ f : Nm → V, (dkm fs f).length < sizeLine := fun f => by
                unfold dkm
                rw [List.length_map]
                exact sz_lt (by omega)
              have nx : ∀ fs2 : List Nm, (∀ x ∈ fs, x ∈ fs2) → ((path ts u pp).length ≤ i + 1 → qq ∈ fs2) → Rd pl ts u i fs2 ∧ NbG (ts.take j) ts u i fs2 ∧ (1 ≤ k + 1 → (path ts u e.1).length ≤ i + 1 → e.2.1 ∈ fs2) ∧ (2 ≤ k + 1 → (path ts u e.2.1).length ≤ i + 1 → e.1 ∈ fs2) := fun fs2 sub hq => by
                refine ⟨fun x hx l => sub _ (R9 x hx l), fun e' he' => ⟨fun z => sub _ ((nb9 e' he').1 z), fun z => sub _ ((nb9 e' he').2 z)⟩, fun _ z => ?_, fun z2 z => ?_⟩
                · rcases hpq with ⟨j0, z1, z2⟩ | ⟨j1, z1, z2⟩
                  · rw [← z2]
                    exact hq (by rw [z1]; exact z)
                  · exact sub _ (n1 (by omega) z)
                · rcases hpq with ⟨j0, z1, z2'⟩ | ⟨j1, z1, z2'⟩
                  · omega
                  · rw [← z2']
                    exact hq (by rw [z1]; exact z)
              refine ⟨cc, _, rfl, SqT.of (sm9 _ _ ccD hcc), rfl, _, _, rfl, _, _, rfl, rfl, ?_⟩
              refine ⟨_, rfl, _, rfl, D, _, rfl, DGet.k (k := Sum.inr (S pp)) W9.dict, _, rfl, ?_⟩
              rw [dkm_some]
              by_cases hh : pp ∈ fs
              · rw [decide_eq_true hh]
                refine iteT ⟨_, rfl, _, rfl, D, _, rfl, DGet.k (k := Sum.inr (S qq)) W9.dict, _, rfl, ?_⟩
                rw [dkm_some]
                by_cases hy : qq ∈ fs
                · rw [decide_eq_true hy]
                  obtain ⟨k0, k1, k2, k3⟩ := nx fs (fun _ z => z) fun _ => hy
                  exact iteF ⟨_, _, fs, ad, pw, rfl, W9, sm9, K9, k0, k1, k2, k3⟩
                · rw [decide_eq_false hy]
                  refine iteT ?_
                  obtain ⟨e1, e2, K10⟩ := K9.push tr hh adj hy
                  obtain ⟨v1, v2⟩ := W9.val pp hh
                  refine ⟨_, rfl, _, rfl, D, .ref (ad pp), rfl, by rw [← dkm_get (f := fun x => V.ref (ad x)) hh]; exact DGet.k (k := Sum.inr (S pp)) W9.dict, ad pp, _, 0, .ref (pw pp), rfl, rfl, SqT.of v1, atI_nat (j := 0) rfl, ?_⟩
                  refine ⟨_, rfl, (by show 1 ≤ sizeLine; decide), fun c4 nc4 => ?_⟩
                  have U1 := same_new (o := .tup [.str (S qq)]) (Same.refl H9) nc4
                  have pk := path_le fine hu ppl
                  refine cat_any0 (U1 _ _ v2) upd_same (by rw [List.length_map, List.length_map]; exact sz_le (by simp; omega)) fun c5 H10 U2 hc5 => ?_
                  have U3 := U1.trans U2
                  have W10 := W9.keep U3
                  refine ⟨_, rfl, _, rfl, D, .ref (ad pp), rfl, by rw [← dkm_get (f := fun x => V.ref (ad x)) hh]; exact DGet.k (k := Sum.inr (S pp)) W10.dict, ad pp, _, 1, .int (dist ts u pp), rfl, rfl, SqT.of (U3 _ _ v1), atI_nat (j := 1) rfl, _, rfl, _, _, rfl, rfl, ?_⟩
                  refine ⟨(by show 2 ≤ sizeLine; decide), fun c6 nc6 => ?_⟩
                  have U4 := same_new (o := .tup [.ref c5, .int (dist ts u pp + e.2.2)]) (Same.refl H10) nc6
                  have W11 := W10.keep U4
                  have hc6 : (upd H10 c6 (.tup [.ref c5, .int (dist ts u pp + e.2.2)])) c6 = some (.tup [.ref c5, .int (dist ts u pp + e.2.2)]) := upd_same
                  have hc5' := U4 _ _ hc5
                  have sm11 : SmX D H8 (upd H10 c6 (.tup [.ref c5, .int (dist ts u pp + e.2.2)])) := sm9.trans fun b o _ h => (U3.trans U4) b o h
                  generalize upd H10 c6 (.tup [.ref c5, .int (dist ts u pp + e.2.2)]) = H11 at W11 hc6 hc5' sm11
                  have ep : ((path ts u pp).map S).map V.str ++ [V.str (S qq)] = ((path ts u qq).map S).map V.str := by
                    rw [e2, List.map_append, List.map_append]
                    rfl
                  rw [ep] at hc5'
                  refine ⟨_, rfl, _, rfl, D, _, rfl, DPut.k (k := Sum.inr (S qq)) W11.dict (szf _), ?_⟩
                  rw [dkm_new hy]
                  obtain ⟨k0, k1, k2, k3⟩ := nx (fs ++ [qq]) (fun _ z => List.mem_append_left _ z) fun _ => List.mem_append_right _ (List.mem_singleton.mpr rfl)
                  exact ⟨_, _, fs ++ [qq], _, _, rfl, W11.add hy e1 hc6 hc5', sm11.mut, K10, k0, k1, k2, k3⟩
              · rw [decide_eq_false hh]
                obtain ⟨k0, k1, k2, k3⟩ := nx fs (fun _ z => z) fun l => absurd (R9 pp ppl l) hh
                exact iteF ⟨_, _, fs, ad, pw, rfl, W9, sm9, K9, k0, k1, k2, k3⟩
            · obtain ⟨x7, x8, fs, ad, pw, rfl, W9, sm9, K9, R9, nb9, n1, n2⟩ := hP
              refine ⟨_, _, _, _, _, fs, ad, pw, rfl, W9, K9, R9, fun e' he' => ?_⟩
              rw [et] at he'
              rcases List.mem_append.mp he' with z | z
              · exact nb9 e' z
              · rw [List.mem_singleton.mp z]
                exact ⟨n1 (by simp), n2 (by simp)⟩
        · obtain ⟨x4, x5, x6, x7, x8, fs, ad, pw, rfl, W2, K2', R2', nb⟩ := hP
          rw [vl, List.take_length] at nb
          exact ⟨_, _, _, _, _, _, fs, ad, pw, rfl, W2, K2', R2'.next tr hu nb⟩
      · obtain ⟨x3, x4, x5, x6, x7, x8, fs, ad, pw, rfl, W1, K1, R1⟩ := hP
        rw [sqn] at R1
        exact ⟨_, _, _, _, _, _, fs, ad, pw, rfl, W1, K1, R1⟩
    · obtain ⟨x3, x4, x5, x6, x7, x8, fs, ad, pw, rfl, W1, K1, R1⟩ := hM
      exact ⟨_, rfl, q H' D fs ad pw W1 fun x hx => R1 x hx (by have := path_le fine hu hx; omega)⟩
end
end Far

namespace Far
open PySem PySem.Spec PyProof.Rows L2
open C8 (pss_cut tCut)
open SX (S)
open RZ (ItzT iZipA pi_zipA)
structure TxtS (mg : Str → Option Value) : Prop where
  isinstance : mg "isinstance" = none
  tuple : mg "tuple" = none
  str : mg "str" = none
  int : mg "int" = none
  bool : mg "bool" = none
  len : mg "len" = none
  zip : mg "zip" = none
/-- what two told things have in common: texts, whole numbers, tuples of such -/
inductive Plain : Nat → PyData → Prop
  | str (n : Nat) (x : Str) : Plain (n + 1) (.str x)
  | int (n : Nat) (i : Int) : Plain (n + 1) (.int i)
  | tup {n : Nat} {ds : List PyData} : (∀ d ∈ ds, Plain n d) → ds.length ≤ 1000 → Plain (n + 1) (.tuple ds)
abbrev s_law_same : Stmt := topS 35
abbrev N_law_same : List Str := ["found", "due", "one", "other"]
theorem sc_law_same : FnScope N_law_same ["found", "due"] (defScope s_law_same) := ⟨rfl, rfl, rfl, by decide +kernel, rfl, by decide +kernel, by decide +kernel⟩
section
variable {P : Program} {w : World} {K : PySem.W.Frag} {mg : Str → Option Value} {base : Heap}
/-- two that stand for the same data (of depth below n) are the same -/
def spSame (n : Nat) : Sp := fun vs H Q _ => ∃ (u v : V) (d : PyData), vs = [u, v] ∧ Dt H u d ∧ Dt H v d ∧ Plain n d ∧ ∀ H' : Hp, Same H H' → Q (.bl true) H'
theorem ok_same {f : Addr} {fd : FuncData} {n k : Nat} (hk : 1 ≤ k) (F : Fun K "_law_same" "_law_same" s_law_same f fd) (T : TxtS mg) (C_law_same : Cal P w K mg base k "_law_same" (spSame n)) : FnOk P w K mg base CX0 (k + 1) f fd ["found", "due"] (spSame (n + 1)) := by
  refine F.ok sc_law_same (fun vs H Q E h => ?_) (fun cdv A outer s H vs Q E hr h => ?_)
  · obtain ⟨u, v, d, rfl, _⟩ := h
    rfl
  · obtain ⟨u, v, d, rfl, hu, hv, hp, q⟩ := h
    refine ⟨_, (pss_cut (ps_if (pt_val (pe_callB call_isi (by rfl) T.isinstance bt_isinstance (pa_cons (pv 1) (pa_cons (pe_bltn (v := .ty "tuple") (by rfl) T.tuple bt_tuple rfl) pa_nil))))
        (pss_cut (ps_if (PW.pt (pw_or (pt_not (pt_val (pe_callB call_isi (by rfl) T.isinstance bt_isinstance (pa_cons (pv 0) (pa_cons (pe_bltn (v := .ty "tuple") (by rfl) T.tuple bt_tuple rfl) pa_nil))))) (pw_or1 (pt_cmpR op_ne (pe_callB call_len_seq (by rfl) T.len bt_len (pa_cons (pv 0) pa_nil)) (pe_callB call_len_seq (by rfl) T.len bt_len (pa_cons (pv 1) pa_nil)) (nomark _)))))
          (pss_one (ps_ret pe_bl))
          pss_nil)
        (pss_one (ps_ret (pe_cmpR (op_eqD (hd_of hr hk)) (pe_lc (own := [("one", 2), ("other", 3)]) (g := gTup K 2 (gCons (gName 2) (gCons (gName 3) gNil)))  rfl sc_law_same.nd (pi_zipA (by rfl) T.zip (pa_cons (pv 0) (pa_cons (pv 1) pa_nil))) (blkOk_by (N := N_law_same) (sc := defScope s_law_same) (by decide +kernel)) (fun _ _ _ _ _ => (pg_tup rfl (pgs_cons (pg_name (i := 2) sc_law_same.nd rfl (.inl rfl)) (pgs_cons (pg_name (i := 3) sc_law_same.nd rfl (.inl rfl)) pgs_nil)))) (fun _ _ _ _ _ => pts_one (pt_not (pt_val (pe_c C_law_same hr (Nat.le_refl _) rfl (pa_cons (pv 2) (pa_cons (pv 3) pa_nil)))))) (fun _ _ _ _ _ => pe_int)) (pe_lst pa_nil) (nomark _)))))
        pss_nil)
      (pss_cut (ps_if (pt_val (pe_callB call_isi (by rfl) T.isinstance bt_isinstance (pa_cons (pv 1) (pa_cons (pe_bltn (v := .ty "str") (by rfl) T.str bt_str rfl) pa_nil))))
        (pss_one (ps_ret (pe_and (pe_callB call_isi (by rfl) T.isinstance bt_isinstance (pa_cons (pv 0) (pa_cons (pe_bltn (v := .ty "str") (by rfl) T.str bt_str rfl) pa_nil))) (pe_one (pe_cmpR op_eq (pv 0) (pv 1) (nomark _))))))
        pss_nil)
      (pss_one (ps_ret (pe_and (pe_callB call_isi (by rfl) T.isinstance bt_isinstance (pa_cons (pv 0) (pa_cons (pe_bltn (v := .ty "int") (by rfl) T.int bt_int rfl) pa_nil))) (pe_and (pe_not (pe_callB call_isi (by rfl) T.isinstance bt_isinstance (pa_cons (pv 0) (pa_cons (pe_bltn (v := .ty "bool") (by rfl) T.bool bt_bool rfl) pa_nil)))) (pe_one (pe_cmpR op_eq (pv 0) (pv 1) (nomark _))))))))), ?_⟩
    cases hp with
    | str _ x =>
      cases hu
      cases hv
      refine ⟨fun σ' H' => σ' = [some (.str x), some (.str x), none, none] ∧ H' = H, ?_, fun σ' H' hM => ?_⟩
      · exact ⟨_, rfl, _, _, _, _, false, rfl, .ty _, .base (.str x), kit_cls K (by decide +kernel), _, rfl, iteF ⟨rfl, rfl⟩⟩
      · obtain ⟨rfl, rfl⟩ := hM
        refine ⟨fun σ' H' => False, ?_, fun σ' H' hM => hM.elim⟩
        refine ⟨_, rfl, _, _, _, _, true, rfl, .ty _, .base (.str x), kit_cls K (by decide +kernel), _, rfl, iteT ?_⟩
        refine ⟨_, rfl, _, _, _, _, true, rfl, .ty _, .base (.str x), kit_cls K (by decide +kernel), _, rfl, iteT ⟨_, rfl, _, rfl, by simp [scal], ?_⟩⟩
        rw [decide_eq_true rfl]
        exact q _ (Same.refl _)
    | int _ x =>
      cases hu
      cases hv
      refine ⟨fun σ' H' => σ' = [some (.int x), some (.int x), none, none] ∧ H' = H, ?_, fun σ' H' hM => ?_⟩
      · exact ⟨_, rfl, _, _, _, _, false, rfl, .ty _, .base (.int x), kit_cls K (by decide +kernel), _, rfl, iteF ⟨rfl, rfl⟩⟩
      · obtain ⟨rfl, rfl⟩ := hM
        refine ⟨fun σ' H'' => σ' = [some (.int x), some (.int x), none, none] ∧ H'' = H', ?_, fun σ' H'' hM => ?_⟩
        · exact ⟨_, rfl, _, _, _, _, false, rfl, .ty _, .base (.int x), kit_cls K (by decide +kernel), _, rfl, iteF ⟨rfl, rfl⟩⟩
        · obtain ⟨rfl, rfl⟩ := hM
          refine ⟨_, rfl, _, _, _, _, true, rfl, .ty _, .base (.int x), kit_cls K (by decide +kernel), _, rfl, iteT ?_⟩
          refine ⟨_, rfl, _, _, _, _, false, rfl, .ty _, .base (.int x), kit_cls K (by decide +kernel), _, rfl, _, rfl, iteT ⟨_, rfl, _, rfl, by simp [scal], ?_⟩⟩
          rw [decide_eq_true rfl]
          exact q _ (Same.refl _)
    | @tup _ ds hds hl =>
      obtain ⟨a, xs, rfl, ha, hA⟩ := dt_any hu
      obtain ⟨b, ys, rfl, hb, hB⟩ := dt_any hv
      have l1 := DtAll.len hA
      have l2 := DtAll.len hB
      refine ⟨fun σ' H' => False, ?_, fun σ' H' hM => hM.elim⟩
      refine ⟨_, rfl, _, _, _, _, true, rfl, .ty _, hb.ty, kit_cls K (by decide +kernel), _, rfl, iteT ?_⟩
      refine ⟨fun σ' H' => σ' = [some (.ref a), some (.ref b), none, none] ∧ H' = H, ?_, fun σ' H' hM => ?_⟩
      · refine ⟨_, rfl, _, _, _, _, true, rfl, .ty _, ha.ty, kit_cls K (by decide +kernel), _, rfl, iteF ?_⟩
        refine ⟨_, rfl, a, _, rfl, .inr ha.sq, _, rfl, b, _, rfl, .inr hb.sq, rfl, _, rfl, ?_⟩
        rw [l1, l2, decide_eq_true rfl]
        exact iteF ⟨rfl, rfl⟩
      · obtain ⟨rfl, rfl⟩ := hM
        refine ⟨_, rfl, _, rfl, a, b, xs, ys, rfl, .inr ⟨ha.sq, hb.sq, fun D nD => ?_⟩⟩
        refine zip_it (by omega) (fun i H'' => Same H' H'' ∧ H'' D = some (.lst [])) ⟨same_new (Same.refl H') nD, upd_same⟩ (fun i H'' hP => ⟨(ha.same hP.1).sq, (hb.same hP.1).sq⟩) (fun i x y H'' T hx hy hP nT => ?_) (fun H'' hP => ?_)
        · obtain ⟨d1, hd1, hx'⟩ := DtAll.get hA hx
          obtain ⟨d2, hd2, hy'⟩ := DtAll.get hB hy
          have ed : d1 = d2 := Option.some.inj (hd1.symm.trans hd2)
          subst ed
          have sT : Same H' (upd H'' T (.tup [x, y])) := same_new hP.1 nT
          refine ⟨T, _, rfl, SqT.of upd_same, rfl, _, _, rfl, _, _, rfl, rfl, rfl, ?_⟩
          refine ⟨_, rfl, _, rfl, x, y, d1, rfl, Dt.keep (TK.of sT) hx', Dt.keep (TK.of sT) hy', hds d1 (List.mem_of_getElem? hd1), fun H3 S3 => ?_⟩
          refine ⟨_, rfl, iteF ⟨sT.trans S3, S3 _ _ ?_⟩⟩
          rw [upd_ne (ne_of_none hP.2 nT)]
          exact hP.2
        · refine ⟨Nat.zero_le _, fun p np => ?_⟩
          refine ⟨_, _, .lst (SqL.of (by rw [upd_ne (ne_of_none hP.2 np)]; exact hP.2)) .nil, .lst (SqL.of upd_same) .nil, rfl, rfl, ?_⟩
          exact q _ (same_new hP.1 np)
end
end Far

namespace Far
open PySem PySem.Spec PyProof.Rows L2
open C8 (pss_cut tCut)
open SX (S)
theorem bt_dict : bootBuiltins ("dict" : Str) = some (.type "dict") := by decide +kernel
structure TxtA27 (mg : Str → Option Value) : Prop where
  dict : mg "dict" = none
  enumerate : mg "enumerate" = none
theorem sl_any {K : PySem.W.Frag} {H : Hp} {a : Addr} {xs : List V} {lo hi : Option Int} {Q : VK} (ha : TupAt H a xs) (k : ∀ (q1 : Addr) (H1 : Hp), Same H H1 → TupAt H1 q1 (cutV xs lo hi) → Q (.ref q1) H1) : rSlA K (.ref a) lo hi H Q := by
  refine ⟨a, _, rfl, ha.sq, fun whole => ?_, fun nw q1 nq1 => k q1 _ (same_new (Same.refl H) nq1) (.inl upd_same)⟩
  have e : cutV xs lo hi = xs := by
    unfold cutV
    rw [whole.1, whole.2, List.drop_zero, Nat.sub_zero, List.take_length]
  exact k a H (Same.refl _) (by rw [e]; exact ha)
theorem sl_tail {K : PySem.W.Frag} {σ : L2.St} {H : Hp} {a : Addr} {xs : List V} {lo : Int} {Q : VK} (ha : TupAt H a xs) (k : ∀ (q1 : Addr) (H1 : Hp), Same H H1 → TupAt H1 q1 (cutV xs (some lo) none) → Q (.ref q1) H1) : tNoPart σ H fun u H3 => rSlA K (.ref a) (some lo) u H3 Q := sl_any ha k
abbrev s_law_all : Stmt := topS 36
abbrev N_law_all : List Str := ["tree", "name"]
theorem sc_law_all : FnScope N_law_all ["tree"] (defScope s_law_all) := ⟨rfl, rfl, rfl, by decide +kernel, rfl, by decide +kernel, by decide +kernel⟩
abbrev s_law_farthest : Stmt := topS 37
abbrev N_law_farthest : List Str := ["tree", "ways", "best", "k", "one", "other"]
theorem sc_law_farthest : FnScope N_law_farthest ["tree"] (defScope s_law_farthest) := ⟨rfl, rfl, rfl, by decide +kernel, rfl, by decide +kernel, by decide +kernel⟩

/-- the ways from each of the places, in dicts of their own -/
structure AllAt (H : Hp) (D : Addr) (pl : List Nm) (ts : List Tie) (bd : Nm → Addr) (fs : Nm → List Nm) (ad pw : Nm → Nm → Addr) : Prop where
  out : H D = some (.dK (dkm pl fun x => .ref (bd x)))
  inn : ∀ u ∈ pl, H (bd u) = some (.dK (dkm (fs u) fun x => .ref (ad u x))) ∧ (∀ x ∈ pl, x ∈ fs u) ∧ ∀ x ∈ fs u, H (ad u x) = some (.tup [.ref (pw u x), .int (dist ts u x)])
theorem AllAt.same {H H' : Hp} {D : Addr} {pl : List Nm} {ts : List Tie} {bd : Nm → Addr} {fs : Nm → List Nm} {ad pw : Nm → Nm → Addr} (h : AllAt H D pl ts bd fs ad pw) (s : Same H H') : AllAt H' D pl ts bd fs ad pw :=
  ⟨s _ _ h.out, fun u hu => ⟨s _ _ (h.inn u hu).1, (h.inn u hu).2.1, fun x hx => s _ _ ((h.inn u hu).2.2 x hx)⟩⟩
theorem merge_dkm (f : Nm → V) : ∀ (l : List Nm) (pre : List Nm), (pre ++ l).Nodup → mergeK (dkm pre f) (l.map fun x => ((Sum.inr (S x) : Key), f x)) = dkm (pre ++ l) f
  | [], pre, _ => by rw [List.append_nil]; rfl
  | x :: r, pre, nd => by
    have nx : x ∉ pre := fun h => by
      have := List.nodup_append.mp nd
      exact this.2.2 x h x List.mem_cons_self rfl
    have nd' : ((pre ++ [x]) ++ r).Nodup := by rwa [List.append_assoc]
    have ih := merge_dkm f r (pre ++ [x]) nd'
    rw [List.append_assoc] at ih
    show mergeK (putK (dkm pre f) (Sum.inr (S x)) (f x)) (r.map fun x => ((Sum.inr (S x) : Key), f x)) = _
    rw [dkm_new nx]
    have e : dkm (pre ++ [x]) (fun z => if z = x then f x else f z) = dkm (pre ++ [x]) f := dkm_cong fun z _ => by
      by_cases h : z = x
      · rw [if_pos h, h]
      · rw [if_neg h]
    rw [e]
    exact ih
section
variable {P : Program} {w : World} {K : PySem.W.Frag} {mg : Str → Option Value} {base : Heap}
def spAll : Sp := fun vs H Q _ => ∃ (v : V) (pl : List Nm) (ts : List Tie), vs = [v] ∧ Dt H v (treeD pl ts) ∧ Fine pl ts ∧ pl.length ≤ 200 ∧ ∀ (H' : Hp) (D : Addr) (bd : Nm → Addr) (fs : Nm → List Nm) (ad pw : Nm → Nm → Addr), Same H H' → AllAt H' D pl ts bd fs ad pw → Q (.ref D) H'
theorem ok_all {f : Addr} {fd : FuncData} (F : Fun K "_law_all" "_law_all" s_law_all f fd) (T : TxtA27 mg) (C_law_lengths : Cal P w K mg base 2 "_law_lengths" spWaysTo) : FnOk P w K mg base CX0 3 f fd ["tree"] spAll := by
  refine F.ok sc_law_all (fun vs H Q E h => ?_) (fun cdv A outer s H vs Q E hr h => ?_)
  · obtain ⟨v, pl, ts, rfl, _⟩ := h
    rfl
  · obtain ⟨v, pl, ts, rfl, hd, fine, p200, q⟩ := h
    obtain ⟨t, a, b, vs, rfl, ht, ha, hb, hA⟩ := dt_tree hd
    refine ⟨_, (pss_one (ps_ret (pe_callTy (call_dictP rfl) (by rfl) T.dict bt_dict (pa_cons (pe_lc (own := [("name", 1)]) (g := gName 1) (tt := tYes) rfl sc_law_all.nd (pi_tup (pe_ix ix_tup (pv 0) pe_int (fun _ _ => rfl))) (blkOk_by (N := N_law_all) (sc := defScope s_law_all) (by decide +kernel)) (fun _ _ _ _ _ => pg_name (i := 1) sc_law_all.nd rfl (Or.inl rfl)) (fun _ _ _ _ _ => pts_nil) (fun _ _ _ _ _ => (pe_tup (pa_cons (pv 1) (pa_cons (pe_c C_law_lengths hr (by decide) rfl (pa_cons (pv 0) (pa_cons (pv 1) pa_nil))) pa_nil))))) pa_nil)))), ?_⟩
    have en : ((pl.map S).map V.str).length = pl.length := by rw [List.length_map, List.length_map]
    have nd := fine.tree.nodup
    refine ⟨_, rfl, t, _, 0, .ref a, rfl, rfl, SqT.of ht, atI_nat (j := 0) rfl, a, rfl, ⟨_, ha.sq⟩, fun L nL => ?_⟩
    refine lc_tup (K := K) (a := a) (xs := (pl.map S).map V.str) (fun i H' => Same H H' ∧ ∃ (ps : Nm → Addr) (bd : Nm → Addr) (fs : Nm → List Nm) (ad pw : Nm → Nm → Addr), H' L = some (.lst ((pl.take i).map fun x => V.ref (ps x))) ∧ (∀ u ∈ pl.take i, H' (ps u) = some (.tup [.str (S u), .ref (bd u)]) ∧ H' (bd u) = some (.dK (dkm (fs u) fun x => .ref (ad u x))) ∧ (∀ x ∈ pl, x ∈ fs u) ∧ ∀ x ∈ fs u, H' (ad u x) = some (.tup [.ref (pw u x), .int (dist ts u x)]))) ⟨same_new (Same.refl H) nL, fun _ => 0, fun _ => 0, fun _ => [], fun _ _ => 0, fun _ _ => 0, upd_same, fun u hu => by cases hu⟩ (fun i H' _ hP => (ha.same hP.1).sq) (fun i v H' hi hP => ?_) (fun H' hP => ?_)
    · obtain ⟨SM, ps, bd, fs, ad, pw, hL, hin⟩ := hP
      obtain ⟨x, hx, mx, rfl, ex⟩ := at_name hi
      have il := (List.getElem?_eq_some_iff.mp hx).1
      have nin : x ∉ pl.take i := fun h => by
        have nd' : (pl.take (i + 1)).Nodup := nd.sublist (List.take_sublist _ _)
        rw [ex] at nd'
        exact (List.nodup_append.mp nd').2.2 x h x (List.mem_singleton.mpr rfl) rfl
      refine ⟨rfl, _, rfl, _, rfl, _, rfl, .ref t, pl, ts, x, rfl, Dt.keep (TK.of SM) hd, fine, mx, fun H1 D' fs' ad' pw' W cov => ?_⟩
      refine ⟨(by show 2 ≤ sizeLine; decide), fun p np => ?_⟩
      have X1 := same_new (o := .tup [.str (S x), .ref D']) W.same np
      have hL1 := X1 _ _ hL
      have X2 := same_new (o := .tup [.str (S x), .ref D']) (Same.refl H1) np
      have hD' := X2 _ _ W.dict
      have hv : ∀ y ∈ fs', (upd H1 p (.tup [.str (S x), .ref D'])) (ad' y) = some (.tup [.ref (pw' y), .int (dist ts x y)]) := fun y hy => X2 _ _ (W.val y hy).1
      have hp : (upd H1 p (.tup [.str (S x), .ref D'])) p = some (.tup [.str (S x), .ref D']) := upd_same
      generalize upd H1 p (.tup [.str (S x), .ref D']) = H2 at X1 hL1 hD' hv hp
      refine ⟨_, hL1, by rw [List.length_map, List.length_take]; exact sz_lt (by omega), same_put (SM.trans X1) nL, fun z => if z = x then p else ps z, fun z => if z = x then D' else bd z, fun z => if z = x then fs' else fs z, fun z => if z = x then ad' else ad z, fun z => if z = x then pw' else pw z, ?_, fun u hu => ?_⟩
      · rw [upd_same, ex, List.map_append]
        refine congrArg (fun z => some (HO.lst z)) (congr (congrArg _ (List.map_congr_left fun y hy => ?_)) ?_)
        · show V.ref (ps y) = V.ref (if y = x then p else ps y)
          rw [if_neg fun e : y = x => nin (e ▸ hy)]
        · show [V.ref p] = [V.ref (if x = x then p else ps x)]
          rw [if_pos rfl]
      · have far : ∀ {b' : Addr} {o : HO}, (∀ xs, o ≠ .lst xs) → H2 b' = some o → (upd H2 L (.lst (((pl.take i).map fun x => V.ref (ps x)) ++ [V.ref p]))) b' = some o := fun no h => by
          rw [upd_ne (ne_of h hL1 (no _))]
          exact h
        rw [ex] at hu
        rcases List.mem_append.mp hu with hu | hu
        · have ux : ¬ u = x := fun e => nin (e ▸ hu)
          simp only [if_neg ux]
          obtain ⟨h1, h2, h3, h4⟩ := hin u hu
          exact ⟨far (fun _ z => by cases z) (X1 _ _ h1), far (fun _ z => by cases z) (X1 _ _ h2), h3, fun y hy => far (fun _ z => by cases z) (X1 _ _ (h4 y hy))⟩
        · have ux := List.mem_singleton.mp hu
          simp only [if_pos ux]
          rw [ux]
          exact ⟨far (fun _ z => by cases z) hp, far (fun _ z => by cases z) hD', cov, fun y hy => far (fun _ z => by cases z) (hv y hy)⟩
    · obtain ⟨SM, ps, bd, fs, ad, pw, hL, hin⟩ := hP
      rw [en, List.take_length] at hL hin
      have pr : Paired (fun p kv => SqT K H' p [kV kv.1, kv.2]) (pl.map ps) (pl.map fun x => ((Sum.inr (S x) : Key), V.ref (bd x))) := by
        have : ∀ l : List Nm, (∀ x ∈ l, x ∈ pl) → Paired (fun p kv => SqT K H' p [kV kv.1, kv.2]) (l.map ps) (l.map fun x => ((Sum.inr (S x) : Key), V.ref (bd x))) := fun l => by
          induction l with
          | nil => exact fun _ => .nil
          | cons x r ih => exact fun h => .cons (SqT.of (hin x (h x List.mem_cons_self)).1) (ih fun y hy => h y (List.mem_cons_of_mem _ hy))
        exact this pl fun x hx => hx
      refine ⟨L, pl.map ps, _, rfl, by rw [List.map_map]; exact SqL.of hL, pr, fun p np => ?_⟩
      have S2 := same_new (o := .dK (mergeK [] (pl.map fun x => ((Sum.inr (S x) : Key), V.ref (bd x))))) (Same.refl H') np
      refine q _ p bd fs ad pw (SM.trans S2) ⟨?_, fun u hu => ?_⟩
      · rw [upd_same]
        have := merge_dkm (fun x => V.ref (bd x)) pl [] nd
        exact congrArg (fun z => some (HO.dK z)) this
      · obtain ⟨h1, h2, h3, h4⟩ := hin u hu
        exact ⟨S2 _ _ h2, h3, fun y hy => S2 _ _ (h4 y hy)⟩
def spLFar : Sp := fun vs H Q _ => ∃ (v : V) (pl : List Nm) (ts : List Tie), vs = [v] ∧ Dt H v (treeD pl ts) ∧ Fine pl ts ∧ pl.length ≤ 200 ∧ ∀ (H' : Hp) (r : V), Same H H' → Dt H' r (farD pl ts) → Q r H'
theorem dt_triT {H : Hp} {b : Addr} {x : Tri} (h : H b = some (.tup [.int x.1, .str (S x.2.1), .str (S x.2.2)])) : Dt H (.ref b) (triD x) := .tup h (.cons (.int _) (.cons (.str _) (.cons (.str _) .nil)))
theorem ok_lfar {f : Addr} {fd : FuncData} (F : Fun K "_law_farthest" "_law_farthest" s_law_farthest f fd) (T : TxtA27 mg) (C_law_all : Cal P w K mg base 3 "_law_all" spAll) : FnOk P w K mg base CX0 4 f fd ["tree"] spLFar := by
  refine F.ok sc_law_farthest (fun vs H Q E h => ?_) (fun cdv A outer s H vs Q E hr h => ?_)
  · obtain ⟨v, pl, ts, rfl, _⟩ := h
    rfl
  · obtain ⟨v, pl, ts, rfl, hd, fine, p200, q⟩ := h
    obtain ⟨t, a, b, vs, rfl, ht, ha, hb, hA⟩ := dt_tree hd
    refine ⟨_, (pss_cons (ps_set (i := 1) sc_law_farthest.nd rfl (.inl rfl) (pe_c C_law_all hr (by decide) rfl (pa_cons (pv 0) pa_nil)))
      (pss_cons (ps_set (i := 2) sc_law_farthest.nd rfl (.inl rfl) (pe_tup (pa_cons pe_int (pa_cons (pe_ix ix_tup (pe_ix ix_tup (pv 0) pe_int (fun _ _ => rfl)) pe_int (fun _ _ => rfl)) (pa_cons (pe_ix ix_tup (pe_ix ix_tup (pv 0) pe_int (fun _ _ => rfl)) pe_int (fun _ _ => rfl)) pa_nil)))))
      (pss_cut (ps_for PassesOwn.never rfl (pi_enumT (by rfl) T.enumerate (pa_cons (pe_ix ix_tup (pv 0) pe_int (fun _ _ => rfl)) pa_nil)) (pg_tup rfl (pgs_cons (pg_name (i := 3) sc_law_farthest.nd rfl (.inl rfl)) (pgs_cons (pg_name (i := 4) sc_law_farthest.nd rfl (.inl rfl)) pgs_nil)))
        (pss_one (ps_for PassesOwn.never rfl (pi_tup (pe_slice sl_tupA (pe_ix ix_tup (pv 0) pe_int (fun _ _ => rfl)) (po_some (pe_op op_add (pv 3) pe_int)) po_none)) (pg_name (i := 5) sc_law_farthest.nd rfl (.inl rfl))
          (pss_one (ps_if (pt_cmpR op_gt (pe_ix ix_tup (pe_dget (hu_of hr) (pe_dget (hu_of hr) (pv 1) (pv 4) (fun _ _ => rfl)) (pv 5) (fun _ _ => rfl)) pe_int (fun _ _ => rfl)) (pe_ix ix_tup (pv 2) pe_int (fun _ _ => rfl)) (nomark _))
            (pss_one (ps_set (i := 2) sc_law_farthest.nd rfl (.inl rfl) (pe_tup (pa_cons (pe_ix ix_tup (pe_dget (hu_of hr) (pe_dget (hu_of hr) (pv 1) (pv 4) (fun _ _ => rfl)) (pv 5) (fun _ _ => rfl)) pe_int (fun _ _ => rfl)) (pa_cons (pv 4) (pa_cons (pv 5) pa_nil))))))
            pss_nil)))))
      (pss_one (ps_ret (pv 2)))))), ?_⟩
    have sqn : ((pl.map S).map V.str).length = pl.length := by rw [List.length_map, List.length_map]
    obtain ⟨h0, r0, e0⟩ : ∃ x r, pl = x :: r := by
      cases hp : pl with
      | nil => exact absurd hp fine.ne
      | cons x r => exact ⟨x, r, rfl⟩
    have f0 : ((pl.map S).map V.str)[0]? = some (.str (S h0)) := by rw [e0]; rfl
    have ehd : pl.headD [] = h0 := by rw [e0]; rfl
    refine ⟨_, rfl, .ref t, pl, ts, rfl, hd, fine, p200, fun H1 D bd fs ad pw S1 A1 => ?_⟩
    refine ⟨_, rfl, t, _, 0, .ref a, rfl, rfl, SqT.of (S1 _ _ ht), atI_nat (j := 0) rfl, a, _, 0, .str (S h0), rfl, rfl, (ha.same S1).sq, atI_nat (j := 0) f0, ?_⟩
    refine ⟨_, rfl, t, _, 0, .ref a, rfl, rfl, SqT.of (S1 _ _ ht), atI_nat (j := 0) rfl, a, _, 0, .str (S h0), rfl, rfl, (ha.same S1).sq, atI_nat (j := 0) f0, ?_⟩
    refine ⟨(by show 3 ≤ sizeLine; decide), fun p np => ?_⟩
    have S2' := same_new (o := .tup [.int 0, .str (S h0), .str (S h0)]) (Same.refl H1) np
    have S2 := S1.trans S2'
    have A2 := A1.same S2'
    have hp : (upd H1 p (.tup [.int 0, .str (S h0), .str (S h0)])) p = some (.tup [.int (topT (0, h0, h0) (prs pl ts 0)).1, .str (S (topT (0, h0, h0) (prs pl ts 0)).2.1), .str (S (topT (0, h0, h0) (prs pl ts 0)).2.2)]) := upd_same
    generalize upd H1 p (.tup [.int 0, .str (S h0), .str (S h0)]) = H2 at S2 A2 hp
    refine ⟨fun σ' H' => ∃ (x3 x4 x5 : Option V) (bp : Addr), σ' = [some (.ref t), some (.ref D), some (.ref bp), x3, x4, x5] ∧ Same H2 H' ∧ H' bp = some (.tup [.int (topT (0, h0, h0) (prs pl ts pl.length)).1, .str (S (topT (0, h0, h0) (prs pl ts pl.length)).2.1), .str (S (topT (0, h0, h0) (prs pl ts pl.length)).2.2)]), ?_, fun σ' H' hM => ?_⟩
    · refine ⟨_, rfl, t, _, 0, .ref a, rfl, rfl, SqT.of (S2 _ _ ht), atI_nat (j := 0) rfl, a, _, rfl, (ha.same S2).sq, ?_⟩
      refine for_enumT (K := K) (a := a) (xs := (pl.map S).map V.str) (fun i σ' H' => ∃ (x3 x4 x5 : Option V) (bp : Addr), σ' = [some (.ref t), some (.ref D), some (.ref bp), x3, x4, x5] ∧ Same H2 H' ∧ H' bp = some (.tup [.int (topT (0, h0, h0) (prs pl ts i)).1, .str (S (topT (0, h0, h0) (prs pl ts i)).2.1), .str (S (topT (0, h0, h0) (prs pl ts i)).2.2)])) ⟨none, none, none, p, rfl, Same.refl _, hp⟩ (fun i σ' H' hP => ?_) (fun i v σ' H' u hi hP nu => ?_) (fun σ' H' hP => ?_)
      · obtain ⟨_, _, _, bp, rfl, SM, _⟩ := hP
        exact (ha.same (S2.trans SM)).sq
      · obtain ⟨x3, x4, x5, bp, rfl, SM, hb1⟩ := hP
        obtain ⟨x, gx, hx, rfl, _⟩ := at_name hi
        have ip : i < pl.length := (List.getElem?_eq_some_iff.mp gx).1
        have S3 := same_new (o := .tup [.int (i : Nat), .str (S x)]) SM nu
        have hb3 := same_new (o := .tup [.int (i : Nat), .str (S x)]) (Same.refl H') nu _ _ hb1
        have hu3 : (upd H' u (.tup [.int (i : Nat), .str (S x)])) u = some (.tup [.int (i : Nat), .str (S x)]) := upd_same
        clear hb1 SM nu
        generalize upd H' u (.tup [.int (i : Nat), .str (S x)]) = H3 at S3 hb3 hu3
        refine ⟨u, _, rfl, SqT.of hu3, rfl, _, _, rfl, _, _, rfl, rfl, ?_⟩
        have W3 := S2.trans S3
        refine ⟨_, rfl, t, _, 0, .ref a, rfl, rfl, SqT.of (W3 _ _ ht), atI_nat (j := 0) rfl, ?_⟩
        refine ⟨_, rfl, _, _, rfl, rfl, ((i + 1 : Nat) : Int), rfl, ?_⟩
        refine sl_tail (ha.same W3) fun g H4 S4 hg => ?_
        rw [cut_from (by rw [sqn]; omega)] at hg
        have hg : TupAt H4 g (((pl.drop (i + 1)).map S).map V.str) := by
          rw [List.map_drop, List.map_drop]
          exact hg
        have S4' := S3.trans S4
        have hb4 := S4 _ _ hb3
        have el : (rowP pl ts i).length = pl.length - (i + 1) := rowP_len pl ts i
        refine ⟨g, rfl, ⟨_, hg.sq⟩, for_tup (K := K) (a := g) (xs := ((pl.drop (i + 1)).map S).map V.str) (fun j σ' H' => ∃ (x5 : Option V) (bp : Addr), σ' = [some (.ref t), some (.ref D), some (.ref bp), some (.int i), some (.str (S x)), x5] ∧ Same H4 H' ∧ H' bp = some (.tup [.int (topT (0, h0, h0) (prs pl ts i ++ (rowP pl ts i).take j)).1, .str (S (topT (0, h0, h0) (prs pl ts i ++ (rowP pl ts i).take j)).2.1), .str (S (topT (0, h0, h0) (prs pl ts i ++ (rowP pl ts i).take j)).2.2)])) ⟨x5, bp, rfl, Same.refl _, by rw [List.take_zero, List.append_nil]; exact hb4⟩ (fun j σ' H' _ hP => ?_) (fun j v σ' H' hj hP => ?_) (fun σ' H' hP => ?_)⟩
        · obtain ⟨_, _, _, SN, _⟩ := hP
          exact (hg.same SN).sq
        · obtain ⟨x5, bp, rfl, SN, hbj⟩ := hP
          obtain ⟨y, gy, hy, rfl, _⟩ := at_name hj
          rw [List.getElem?_drop] at gy
          have my : y ∈ pl := List.mem_of_getElem? gy
          have row := rowP_at (ts := ts) gx gy
          have A5 := A2.same (S4'.trans SN)
          obtain ⟨d1, d2, d3⟩ := A5.inn x hx
          have g1 : DGet H' D (.str (S x)) (some (.ref (bd x))) := by
            rw [← dkm_get (f := fun l => V.ref (bd l)) hx]
            exact DGet.k (k := Sum.inr (S x)) A5.out
          have g2 : DGet H' (bd x) (.str (S y)) (some (.ref (ad x y))) := by
            rw [← dkm_get (f := fun l => V.ref (ad x l)) (d2 y my)]
            exact DGet.k (k := Sum.inr (S y)) d1
          have g3 := d3 y (d2 y my)
          have tj : (rowP pl ts i).take (j + 1) = (rowP pl ts i).take j ++ [(dist ts x y, x, y)] := by rw [List.take_add_one, row]; rfl
          refine ⟨_, rfl, _, rfl, D, .ref (bd x), rfl, g1, _, rfl, bd x, .ref (ad x y), rfl, g2, ad x y, _, 1, .int (dist ts x y), rfl, rfl, SqT.of g3, atI_nat (j := 1) rfl, ?_⟩
          refine ⟨_, rfl, bp, _, 0, _, rfl, rfl, SqT.of hbj, atI_nat (j := 0) rfl, _, _, rfl, rfl, _, rfl, ?_⟩
          refine ite2 (fun c => ?_) (fun c => ?_)
          · have c := of_decide_eq_true c
            refine ⟨_, rfl, _, rfl, D, .ref (bd x), rfl, g1, _, rfl, bd x, .ref (ad x y), rfl, g2, ad x y, _, 1, .int (dist ts x y), rfl, rfl, SqT.of g3, atI_nat (j := 1) rfl, ?_⟩
            refine ⟨_, rfl, _, rfl, (by show 3 ≤ sizeLine; decide), fun np2 nnp => ?_⟩
            refine ⟨_, np2, rfl, same_new SN nnp, ?_⟩
            rw [upd_same, tj, ← List.append_assoc, topT_snoc, if_pos c]
          · have c : ¬ dist ts x y > (topT (0, h0, h0) (prs pl ts i ++ (rowP pl ts i).take j)).1 := fun z => c (decide_eq_true z)
            refine ⟨_, bp, rfl, SN, ?_⟩
            rw [tj, ← List.append_assoc, topT_snoc, if_neg c]
            exact hbj
        · obtain ⟨x5, bp, rfl, SN, hbj⟩ := hP
          rw [List.length_map, List.length_map, List.length_drop, ← el, List.take_length, ← prs_succ] at hbj
          exact ⟨_, _, _, _, rfl, S4'.trans SN, hbj⟩
      · obtain ⟨x3, x4, x5, bp, rfl, SM, hb1⟩ := hP
        rw [sqn] at hb1
        exact ⟨_, _, _, _, rfl, SM, hb1⟩
    · obtain ⟨x3, x4, x5, bp, rfl, SM, hb1⟩ := hM
      refine ⟨_, rfl, q _ _ (S2.trans SM) ?_⟩
      rw [(farD_top fine).1, ehd]
      exact dt_triT hb1
end
end Far

namespace Far
open PySem PySem.Spec PyProof.Rows L2
open C8 (pss_cut tCut)
open SX (S)
abbrev s_law_fraction : Stmt := topS 38
abbrev N_law_fraction : List Str := ["above", "below", "one", "other"]
theorem sc_law_fraction : FnScope N_law_fraction ["above", "below"] (defScope s_law_fraction) := ⟨rfl, rfl, rfl, by decide +kernel, rfl, by decide +kernel, by decide +kernel⟩
section
variable {P : Program} {w : World} {K : PySem.W.Frag} {mg : Str → Option Value} {base : Heap}
def spLFrac : Sp := fun vs H Q _ => ∃ n : Int, vs = [.int n, .int 2] ∧ 0 ≤ n ∧ ∀ (H' : Hp) (r : V), Same H H' → Dt H' r (halfD n) → Q r H'
theorem ok_lfrac {f : Addr} {fd : FuncData} (F : Fun K "_law_fraction" "_law_fraction" s_law_fraction f fd) : FnOk P w K mg base CX0 1 f fd ["above", "below"] spLFrac := by
  refine F.ok sc_law_fraction (fun vs H Q E h => ?_) (fun cdv A outer s H vs Q E hr h => ?_)
  · obtain ⟨n, rfl, _⟩ := h
    rfl
  · obtain ⟨n, rfl, n0, q⟩ := h
    refine ⟨_, (pss_cons (ps_set (i := 2) sc_law_fraction.nd rfl (.inl rfl) (pv 0))
      (pss_cons (ps_set (i := 3) sc_law_fraction.nd rfl (.inl rfl) (pv 1))
      (pss_cut (ps_while PassesOwn.never (pt_cmpR op_gt (pv 3) pe_int (nomark _))
        (pss_one (ps_par (i := 2) (j := 3) rfl sc_law_fraction.nd rfl rfl (by decide) rfl rfl (pa_cons (pv 3) (pa_cons (pe_op op_mod (pv 2) (pv 3)) pa_nil)) (by rfl))))
      (pss_one (ps_ret (pe_tup (pa_cons (pe_op op_fdiv (pv 0) (pv 2)) (pa_cons (pe_op op_fdiv (pv 1) (pv 2)) pa_nil)))))))), ?_⟩
    refine ⟨_, rfl, _, rfl, ?_⟩
    refine ⟨fun σ' H' => ∃ one other : Int, σ' = [some (.int n), some (.int 2), some (.int one), some (.int other)] ∧ Same H H' ∧ ((n % 2 = 0 ∧ one = 2) ∨ (n % 2 = 1 ∧ one = 1)), ?_, fun σ' H' hM => ?_⟩
    · refine ⟨fun m σ' H' => ∃ one other : Int, σ' = [some (.int n), some (.int 2), some (.int one), some (.int other)] ∧ Same H H' ∧ ((m = 2 ∧ one = n ∧ other = 2) ∨ (m = 1 ∧ one = 2 ∧ other = n % 2) ∨ (m = 0 ∧ n % 2 = 1 ∧ one = 1 ∧ other = 0)), ⟨2, n, 2, rfl, Same.refl _, .inl ⟨rfl, rfl, rfl⟩⟩, ?_⟩
      rintro m σ2 H2 ⟨one, other, rfl, S2, st⟩
      refine ⟨_, rfl, _, _, rfl, rfl, _, rfl, ?_⟩
      refine ite2 (fun c => ?_) (fun c => ?_)
      · have c : other > 0 := of_decide_eq_true c
        refine ⟨fun σ' H' => ∃ one' other' : Int, σ' = [some (.int n), some (.int 2), some (.int one'), some (.int other')] ∧ Same H H' ∧ one' = other ∧ other' = one % other, ?_, ?_⟩
        · rintro σ' H' ⟨o1, o2, e, S3, e1, e2⟩
          rcases st with ⟨em, a1, a2⟩ | ⟨em, a1, a2⟩ | ⟨em, a0, a1, a2⟩
          · exact ⟨1, by omega, o1, o2, e, S3, .inr (.inl ⟨rfl, by omega, by rw [e2, a1, a2]⟩)⟩
          · have : n % 2 = 1 := by omega
            exact ⟨0, by omega, o1, o2, e, S3, .inr (.inr ⟨rfl, this, by omega, by rw [e2, a1, a2, this]; decide⟩)⟩
          · omega
        · refine ⟨_, rfl, _, rfl, _, rfl, _, _, rfl, rfl, (by show (0 : Int) < other; omega), ?_⟩
          exact ⟨_, _, rfl, other, one % other, rfl, S2, rfl, rfl⟩
      · have c : ¬ other > 0 := fun z => c (decide_eq_true z)
        refine ⟨one, other, rfl, S2, ?_⟩
        rcases st with ⟨em, a1, a2⟩ | ⟨em, a1, a2⟩ | ⟨em, a0, a1, a2⟩
        · omega
        · exact .inl ⟨by omega, a1⟩
        · exact .inr ⟨a0, a1⟩
    · obtain ⟨one, other, rfl, S1, e⟩ := hM
      rcases e with ⟨e1, rfl⟩ | ⟨e1, rfl⟩
      · refine ⟨_, rfl, _, rfl, _, _, rfl, rfl, ⟨by decide, by decide⟩, _, rfl, _, rfl, _, _, rfl, rfl, ⟨by decide, by decide⟩, (by show 2 ≤ sizeLine; decide), fun p np => ?_⟩
        refine q _ _ (same_new S1 np) ?_
        unfold halfD
        rw [if_pos e1]
        exact .tup upd_same (.cons (.int _) (.cons (.int _) .nil))
      · refine ⟨_, rfl, _, rfl, _, _, rfl, rfl, ⟨by decide, by decide⟩, _, rfl, _, rfl, _, _, rfl, rfl, ⟨by decide, by decide⟩, (by show 2 ≤ sizeLine; decide), fun p np => ?_⟩
        refine q _ _ (same_new S1 np) ?_
        unfold halfD
        rw [if_neg (by omega)]
        have : n / 1 = n := by omega
        refine .tup upd_same (.cons ?_ (.cons (.int _) .nil))
        show Dt _ (.int (n / 1)) (.int n)
        rw [this]
        exact .int _
end
end Far

namespace Far
open PySem PySem.Spec PyProof.Rows L2
open C8 (pss_cut tCut)
open SX (S)
/-- before the middle or not -/
theorem mid_iff {pl : List Nm} {ts : List Tie} (F : IsTree pl ts) {u x : Nm} (hu : u ∈ pl) (hx : x ∈ pl) {i : Nat} {y : Nm} (hi : (path ts u x)[i]? = some y) : 2 * dist ts u y < dist ts u x ↔ i < midK ts u x := by
  have w := F.the_way hu hx
  obtain ⟨il, e⟩ := List.getElem?_eq_some_iff.mp hi
  have := cutIx_iff (W := dist ts u x) (w.rising F).1 i (by rw [List.length_map]; exact il)
  rw [List.getElem_map, e] at this
  exact this
abbrev s_law_middle : Stmt := topS 39
abbrev N_law_middle : List Str := ["tree", "far", "one", "other", "way", "half", "here", "name"]
theorem sc_law_middle : FnScope N_law_middle ["tree"] (defScope s_law_middle) := ⟨rfl, rfl, rfl, by decide +kernel, rfl, by decide +kernel, by decide +kernel⟩
section
variable {P : Program} {w : World} {K : PySem.W.Frag} {mg : Str → Option Value} {base : Heap}
def spLMid : Sp := fun vs H Q _ => ∃ (v : V) (pl : List Nm) (ts : List Tie), vs = [v] ∧ Dt H v (treeD pl ts) ∧ PlZ H v pl ∧ Fine pl ts ∧ pl.length ≤ 200 ∧ ∀ (H' : Hp) (r : V), Same H H' → Dt H' r (middleD pl ts) → Q r H'
theorem ok_lmid {f : Addr} {fd : FuncData} (F : Fun K "_law_middle" "_law_middle" s_law_middle f fd) (C_law_farthest : Cal P w K mg base 4 "_law_farthest" spLFar) (C_law_lengths : Cal P w K mg base 2 "_law_lengths" spWaysTo) (C_law_fraction : Cal P w K mg base 1 "_law_fraction" spLFrac) : FnOk P w K mg base CX0 5 f fd ["tree"] spLMid := by
  refine F.ok sc_law_middle (fun vs H Q E h => ?_) (fun cdv A outer s H vs Q E hr h => ?_)
  · obtain ⟨v, pl, ts, rfl, _⟩ := h
    rfl
  · obtain ⟨v, pl, ts, rfl, hd, hz, fine, p200, q⟩ := h
    obtain ⟨hu0, hx0, hT0⟩ := top_in fine
    have due : middleD pl ts = .tuple [pointD pl ts (topOf pl ts).2.1 (topOf pl ts).2.2, halfD (topOf pl ts).1] := rfl
    have fr0 : farD pl ts = triD (topOf pl ts) := (farD_top fine).1
    rw [due] at q
    obtain ⟨u, x, hu, hx, fr, q⟩ : ∃ u x : Nm, u ∈ pl ∧ x ∈ pl ∧ farD pl ts = triD (dist ts u x, u, x) ∧ ∀ (H' : Hp) (r : V), Same H H' → Dt H' r (.tuple [pointD pl ts u x, halfD (dist ts u x)]) → Q r H' := by
      have hT0 : (topOf pl ts).1 = dist ts (topOf pl ts).2.1 (topOf pl ts).2.2 := hT0
      refine ⟨(topOf pl ts).2.1, (topOf pl ts).2.2, hu0, hx0, ?_, ?_⟩
      · rw [← hT0]
        exact fr0
      · rw [← hT0]
        exact q
    clear hu0 hx0 hT0 due fr0
    have w := fine.tree.the_way hu hx
    have inP : ∀ y ∈ path ts u x, y ∈ pl := fun y hy => w.inside (fun e he => ⟨(fine.tree.ties e he).1, (fine.tree.ties e he).2.1⟩) hu y hy
    have mf := mid_facts fine.tree hu hx
    have nd := fine.tree.nodup
    have nn := (Way.nonneg (fun e he => (fine.tree.ties e he).2.2.1) w).1
    have plen := path_len fine hu hx
    obtain ⟨q', efirst⟩ := w.first
    refine ⟨_, (pss_cons (ps_asg (pe_c C_law_farthest hr (by decide) rfl (pa_cons (pv 0) pa_nil)) (pg_tup rfl (pgs_cons (pg_name (i := 1) sc_law_middle.nd rfl (.inl rfl)) (pgs_cons (pg_name (i := 2) sc_law_middle.nd rfl (.inl rfl)) (pgs_cons (pg_name (i := 3) sc_law_middle.nd rfl (.inl rfl)) pgs_nil)))))
      (pss_cons (ps_set (i := 4) sc_law_middle.nd rfl (.inl rfl) (pe_c C_law_lengths hr (by decide) rfl (pa_cons (pv 0) (pa_cons (pv 2) pa_nil))))
      (pss_cons (ps_set (i := 5) sc_law_middle.nd rfl (.inl rfl) (pe_c C_law_fraction hr (by decide) rfl (pa_cons (pv 1) (pa_cons pe_int pa_nil))))
      (pss_cons (ps_set (i := 6) sc_law_middle.nd rfl (.inl rfl) (pv 2))
      (pss_cut (ps_for PassesOwn.never rfl (pi_tup (pe_ix ix_tup (pe_dget (hu_of hr) (pv 4) (pv 3) (fun _ _ => rfl)) pe_int (fun _ _ => rfl))) (pg_name (i := 7) sc_law_middle.nd rfl (.inl rfl))
        (pss_cut (ps_if (pt_cmpR op_eq (pe_op op_mul pe_int (pe_ix ix_tup (pe_dget (hu_of hr) (pv 4) (pv 7) (fun _ _ => rfl)) pe_int (fun _ _ => rfl))) (pv 1) (nomark _))
          (pss_one (ps_ret (pe_tup (pa_cons (pe_tup (pa_cons (pv 7) (pa_cons (pv 7) (pa_cons (pe_tup (pa_cons pe_int (pa_cons pe_int pa_nil))) pa_nil)))) (pa_cons (pv 5) pa_nil)))))
          pss_nil)
        (pss_cut (ps_if (pt_cmpR op_gt (pe_op op_mul pe_int (pe_ix ix_tup (pe_dget (hu_of hr) (pv 4) (pv 7) (fun _ _ => rfl)) pe_int (fun _ _ => rfl))) (pv 1) (nomark _))
          (pss_one ps_break)
          pss_nil)
        (pss_one (ps_set (i := 6) sc_law_middle.nd rfl (.inl rfl) (pv 7))))))
      (pss_cut (ps_if (pt_cmpR op_lt (pe_ixZ (pe_ix ix_tup (pv 0) pe_int (fun _ _ => rfl)) (pv 6)) (pe_ixZ (pe_ix ix_tup (pv 0) pe_int (fun _ _ => rfl)) (pv 7)) (nomark _))
        (pss_one (ps_ret (pe_tup (pa_cons (pe_tup (pa_cons (pv 6) (pa_cons (pv 7) (pa_cons (pe_c C_law_fraction hr (by decide) rfl (pa_cons (pe_op op_sub (pv 1) (pe_op op_mul pe_int (pe_ix ix_tup (pe_dget (hu_of hr) (pv 4) (pv 6) (fun _ _ => rfl)) pe_int (fun _ _ => rfl)))) (pa_cons pe_int pa_nil))) pa_nil)))) (pa_cons (pv 5) pa_nil)))))
        pss_nil)
      (pss_one (ps_ret (pe_tup (pa_cons (pe_tup (pa_cons (pv 7) (pa_cons (pv 6) (pa_cons (pe_c C_law_fraction hr (by decide) rfl (pa_cons (pe_op op_sub (pe_op op_mul pe_int (pe_ix ix_tup (pe_dget (hu_of hr) (pv 4) (pv 7) (fun _ _ => rfl)) pe_int (fun _ _ => rfl))) (pv 1)) (pa_cons pe_int pa_nil))) pa_nil)))) (pa_cons (pv 5) pa_nil))))))))))), ?_⟩
    refine ⟨_, rfl, v, pl, ts, rfl, hd, fine, p200, fun H1 r1 S1 h1 => ?_⟩
    rw [fr] at h1
    obtain ⟨f6, rfl, hf6⟩ := dt_tri h1
    refine ⟨f6, _, rfl, SqT.of hf6, rfl, _, _, rfl, _, _, rfl, _, _, rfl, rfl, ?_⟩
    refine ⟨_, rfl, _, rfl, v, pl, ts, u, rfl, Dt.keep (TK.of S1) hd, fine, hu, fun H2 D fs ad pw W cov => ?_⟩
    have S2 := S1.trans W.same
    refine ⟨_, rfl, _, rfl, nn, fun H3 h S3 hh => ?_⟩
    have W3 := S2.trans S3
    have Dd := S3 _ _ W.dict
    have vx : ∀ y ∈ fs, H3 (ad y) = some (.tup [.ref (pw y), .int (dist ts u y)]) ∧ H3 (pw y) = some (.tup (((path ts u y).map S).map V.str)) := fun y hy => ⟨S3 _ _ (W.val y hy).1, S3 _ _ (W.val y hy).2⟩
    clear S2 S1 W h1 hf6 S3
    obtain ⟨t, a, b, o, rfl, ht, od, haz⟩ := hz
    have ht3 := W3 _ _ ht
    have haz3 := W3 _ _ haz
    have get : ∀ {H' : Hp} {y : Nm}, Same H3 H' → y ∈ pl → DGet H' D (.str (S y)) (some (.ref (ad y))) := fun {H' y} s hy => by
      rw [← dkm_get (f := fun l => V.ref (ad l)) (cov y hy)]
      exact DGet.k (k := Sum.inr (S y)) (s _ _ Dd)
    refine ⟨_, rfl, ?_⟩
    refine ⟨fun σ' H' => σ' = [some (.ref t), some (.int (dist ts u x)), some (.str (S u)), some (.str (S x)), some (.ref D), some h, some (.str (S (lo ts u x))), some (.str (S (hi ts u x)))] ∧ Same H3 H' ∧ 2 * dist ts u (hi ts u x) ≠ dist ts u x, ?_, fun σ' H' hM => ?_⟩
    · refine ⟨_, rfl, _, rfl, D, .ref (ad x), rfl, get (Same.refl _) hx, ad x, _, 0, .ref (pw x), rfl, rfl, SqT.of (vx x (cov x hx)).1, atI_nat (j := 0) rfl, ?_⟩
      have hpw := (vx x (cov x hx)).2
      refine ⟨pw x, rfl, ⟨_, SqT.of hpw⟩, for_tup (K := K) (a := pw x) (xs := ((path ts u x).map S).map V.str) (fun i σ' H' => ∃ (x7 : Option V) (hr : Nm), σ' = [some (.ref t), some (.int (dist ts u x)), some (.str (S u)), some (.str (S x)), some (.ref D), some h, some (.str (S hr)), x7] ∧ Same H3 H' ∧ i ≤ midK ts u x ∧ (1 ≤ i → (path ts u x)[i - 1]? = some hr)) ⟨none, u, rfl, Same.refl _, Nat.zero_le _, fun z => by omega⟩ (fun i σ' H' _ hP => ?_) (fun i v' σ' H' hyi hP => ?_) (fun σ' H' hP => ?_)⟩
      · obtain ⟨_, _, _, SN, _⟩ := hP
        exact SqT.of (SN _ _ hpw)
      · obtain ⟨x7, hr, rfl, SN, ik, pre⟩ := hP
        obtain ⟨y, ey, hy, rfl, et⟩ := at_name hyi
        have my := inP y hy
        have iff := mid_iff fine.tree hu hx ey
        have hv := SN _ _ (vx y (cov y my)).1
        refine ⟨fun σ2 H4 => σ2 = [some (.ref t), some (.int (dist ts u x)), some (.str (S u)), some (.str (S x)), some (.ref D), some h, some (.str (S hr)), some (.str (S y))] ∧ Same H3 H4 ∧ 2 * dist ts u y ≠ dist ts u x, ?_, fun σ2 H4 hM => ?_⟩
        · refine ⟨_, rfl, _, rfl, D, .ref (ad y), rfl, get SN my, ad y, _, 1, .int (dist ts u y), rfl, rfl, SqT.of hv, atI_nat (j := 1) rfl, _, _, rfl, rfl, .inl ⟨by decide, by decide⟩, _, rfl, rfl, _, rfl, ?_⟩
          refine ite2 (fun z => ?_) (fun z => ⟨rfl, SN, fun k => z (decide_eq_true (congrArg V.int k))⟩)
          have z : 2 * dist ts u y = dist ts u x := V.int.inj (of_decide_eq_true z)
          have eh := mf.only y hy z
          subst eh
          refine ⟨_, rfl, _, rfl, (by show 2 ≤ sizeLine; decide), fun t1 nt1 => ⟨(by show 3 ≤ sizeLine; decide), fun t2 nt2 => ?_⟩⟩
          refine ⟨_, rfl, (by show 2 ≤ sizeLine; decide), fun t3 nt3 => ?_⟩
          have k12 := (TK.of (SN)).trans ((TK.new (o := .tup [.int 0, .int 1]) nt1).trans ((TK.new (o := .tup [.str (S (hi ts u x)), .str (S (hi ts u x)), .ref t1]) nt2).trans (TK.new (o := .tup [.ref t2, h]) nt3)))
          have g1 := ((TK.new (o := .tup [.str (S (hi ts u x)), .str (S (hi ts u x)), .ref t1]) nt2).trans (TK.new (o := .tup [.ref t2, h]) nt3)).tup t1 [.int 0, .int 1] upd_same
          have g2 := (TK.new (o := .tup [.ref t2, h]) nt3).tup t2 [.str (S (hi ts u x)), .str (S (hi ts u x)), .ref t1] upd_same
          refine q _ _ (same_new (same_new (same_new (W3.trans SN) nt1) nt2) nt3) ?_
          refine .tup upd_same (.cons ?_ (.cons (Dt.keep k12 hh) .nil))
          unfold pointD
          rw [if_pos z]
          exact .tup g2 (.cons (.str _) (.cons (.str _) (.cons (.tup g1 (.cons (.int _) (.cons (.int _) .nil))) .nil)))
        · obtain ⟨rfl, SN, ne⟩ := hM
          have hv := SN _ _ (vx y (cov y my)).1
          refine ⟨fun σ2 H5 => σ2 = [some (.ref t), some (.int (dist ts u x)), some (.str (S u)), some (.str (S x)), some (.ref D), some h, some (.str (S hr)), some (.str (S y))] ∧ Same H3 H5 ∧ 2 * dist ts u y < dist ts u x, ?_, fun σ2 H5 hM => ?_⟩
          · refine ⟨_, rfl, _, rfl, D, .ref (ad y), rfl, get SN my, ad y, _, 1, .int (dist ts u y), rfl, rfl, SqT.of hv, atI_nat (j := 1) rfl, _, _, rfl, rfl, .inl ⟨by decide, by decide⟩, _, rfl, _, _, rfl, rfl, _, rfl, ?_⟩
            refine ite2 (fun z => ?_) (fun z => ⟨rfl, SN, ?_⟩)
            · have z : 2 * dist ts u y > dist ts u x := of_decide_eq_true z
              have ei : i = midK ts u x := by
                have : ¬ i < midK ts u x := fun k => by
                  have := iff.mpr k
                  omega
                omega
              have eh : y = hi ts u x := by
                have := mf.hiE
                rw [← ei, ey] at this
                exact Option.some.inj this
              have ne2 : 2 * dist ts u (hi ts u x) ≠ dist ts u x := by rw [← eh]; exact ne
              obtain ⟨k1, loE, loM, loL⟩ := mf.loE ne2
              have el : hr = lo ts u x := by
                have := pre (by omega)
                rw [ei, loE] at this
                exact (Option.some.inj this).symm
              exact ⟨by rw [eh, el], SN, ne2⟩
            · have z : ¬ 2 * dist ts u y > dist ts u x := fun k => z (decide_eq_true k)
              omega
          · obtain ⟨rfl, SN, lt⟩ := hM
            refine ⟨_, rfl, ?_⟩
            exact ⟨_, y, rfl, SN, by have := iff.mp lt; omega, fun _ => by rw [Nat.add_sub_cancel]; exact ey⟩
      · obtain ⟨x7, hr, rfl, SN, ik, pre⟩ := hP
        have := mf.kl
        rw [List.length_map, List.length_map] at ik
        omega
    · obtain ⟨rfl, SN, ne⟩ := hM
      obtain ⟨k1, loE, loM, loL⟩ := mf.loE ne
      obtain ⟨i1, i2⟩ := idx_at nd (inP _ loM)
      obtain ⟨j1, j2⟩ := idx_at nd (inP _ mf.hiM)
      have ht4 := SN _ _ ht3
      have ha4 := SN _ _ haz3
      have vlo := SN _ _ (vx _ (cov _ (inP _ loM))).1
      have vhi := SN _ _ (vx _ (cov _ (inP _ mf.hiM))).1
      have ge := mf.ge
      refine ⟨fun σ4 H4 => σ4 = [some (.ref t), some (.int (dist ts u x)), some (.str (S u)), some (.str (S x)), some (.ref D), some h, some (.str (S (lo ts u x))), some (.str (S (hi ts u x)))] ∧ H4 = H' ∧ ¬ pl.idxOf (lo ts u x) < pl.idxOf (hi ts u x), ?_, fun σ4 H4 hM => ?_⟩
      · refine ⟨_, rfl, t, _, 0, .ref a, rfl, rfl, SqT.of ht4, atI_nat (j := 0) rfl, a, _, o, rfl, od, ha4, _, rfl, rfl, _, _, rfl, i1, i2, ?_⟩
        refine ⟨_, rfl, t, _, 0, .ref a, rfl, rfl, SqT.of ht4, atI_nat (j := 0) rfl, a, _, o, rfl, od, ha4, _, rfl, rfl, _, _, rfl, j1, j2, _, _, rfl, rfl, _, rfl, ?_⟩
        refine ite2 (fun z => ?_) (fun z => ⟨rfl, rfl, fun k => z (decide_eq_true (by omega))⟩)
        have z : pl.idxOf (lo ts u x) < pl.idxOf (hi ts u x) := by
          have := of_decide_eq_true z
          omega
        refine ⟨_, rfl, _, rfl, _, rfl, _, rfl, _, rfl, D, .ref (ad (lo ts u x)), rfl, get SN (inP _ loM), ad (lo ts u x), _, 1, .int (dist ts u (lo ts u x)), rfl, rfl, SqT.of vlo, atI_nat (j := 1) rfl, _, _, rfl, rfl, .inl ⟨by decide, by decide⟩, _, _, rfl, rfl, _, rfl, by omega, fun H5 r S5 hr5 => ?_⟩
        refine ⟨(by show 3 ≤ sizeLine; decide), fun t2 nt2 => ?_⟩
        refine ⟨_, rfl, (by show 2 ≤ sizeLine; decide), fun t3 nt3 => ?_⟩
        have k12 := (TK.of (SN.trans S5)).trans ((TK.new (o := .tup [.str (S (lo ts u x)), .str (S (hi ts u x)), r]) nt2).trans (TK.new (o := .tup [.ref t2, h]) nt3))
        have k2 := (TK.new (o := .tup [.str (S (lo ts u x)), .str (S (hi ts u x)), r]) nt2).trans (TK.new (o := .tup [.ref t2, h]) nt3)
        have g2 := (TK.new (o := .tup [.ref t2, h]) nt3).tup t2 [.str (S (lo ts u x)), .str (S (hi ts u x)), r] upd_same
        refine q _ _ (same_new (same_new ((W3.trans SN).trans S5) nt2) nt3) ?_
        refine .tup upd_same (.cons ?_ (.cons (Dt.keep k12 hh) .nil))
        unfold pointD
        rw [if_neg ne, if_pos z]
        exact .tup g2 (.cons (.str _) (.cons (.str _) (.cons (Dt.keep k2 hr5) .nil)))
      · obtain ⟨rfl, rfl, nlt⟩ := hM
        refine ⟨_, rfl, _, rfl, _, rfl, _, rfl, D, .ref (ad (hi ts u x)), rfl, get SN (inP _ mf.hiM), ad (hi ts u x), _, 1, .int (dist ts u (hi ts u x)), rfl, rfl, SqT.of vhi, atI_nat (j := 1) rfl, _, _, rfl, rfl, .inl ⟨by decide, by decide⟩, _, rfl, _, _, rfl, rfl, _, rfl, by omega, fun H5 r S5 hr5 => ?_⟩
        refine ⟨(by show 3 ≤ sizeLine; decide), fun t2 nt2 => ?_⟩
        refine ⟨_, rfl, (by show 2 ≤ sizeLine; decide), fun t3 nt3 => ?_⟩
        have k12 := (TK.of (SN.trans S5)).trans ((TK.new (o := .tup [.str (S (hi ts u x)), .str (S (lo ts u x)), r]) nt2).trans (TK.new (o := .tup [.ref t2, h]) nt3))
        have k2 := (TK.new (o := .tup [.str (S (hi ts u x)), .str (S (lo ts u x)), r]) nt2).trans (TK.new (o := .tup [.ref t2, h]) nt3)
        have g2 := (TK.new (o := .tup [.ref t2, h]) nt3).tup t2 [.str (S (hi ts u x)), .str (S (lo ts u x)), r] upd_same
        refine q _ _ (same_new (same_new ((W3.trans SN).trans S5) nt2) nt3) ?_
        refine .tup upd_same (.cons ?_ (.cons (Dt.keep k12 hh) .nil))
        unfold pointD
        rw [if_neg ne, if_neg nlt]
        exact .tup g2 (.cons (.str _) (.cons (.str _) (.cons (Dt.keep k2 hr5) .nil)))
end
end Far

namespace Far
open PySem PySem.Spec PyProof.Rows L2
open C8 (pss_cut tCut)
open SX (S)
theorem iteF' {A B : Prop} {b : Bool} (e : b = false) (h : B) : if b = true then A else B := by
  rw [e]
  exact iteF h
theorem iteT' {A B : Prop} {b : Bool} (e : b = true) (h : A) : if b = true then A else B := by
  rw [e]
  exact iteT h
theorem nd_len : ∀ {pl hs : List Nm}, pl.Nodup → (∀ x ∈ pl, x ∈ hs) → pl.length ≤ hs.length
  | [], _, _, _ => Nat.zero_le _
  | x :: r, hs, nd, h => by
    obtain ⟨A, B, e⟩ := List.append_of_mem (h x List.mem_cons_self)
    obtain ⟨n1, n2⟩ := List.nodup_cons.mp nd
    have := nd_len (hs := A ++ B) n2 fun y hy => by
      have hm := h y (List.mem_cons_of_mem _ hy)
      rw [e] at hm
      rcases List.mem_append.mp hm with z | z
      · exact List.mem_append_left _ z
      · rcases List.mem_cons.mp z with z | z
        · exact absurd (z ▸ hy) n1
        · exact List.mem_append_right _ z
    rw [e]
    simp at this ⊢
    omega
theorem half_shape (n : Int) : ∃ a b : Int, halfD n = .tuple [.int a, .int b] := by
  unfold halfD
  by_cases c : n % 2 = 0
  · exact ⟨_, _, if_pos c⟩
  · exact ⟨_, _, if_neg c⟩
theorem mid_shape {pl : List Nm} {ts : List Tie} (F : Fine pl ts) : ∃ (p q : Nm) (a b c e : Int), p ∈ pl ∧ q ∈ pl ∧ middleD pl ts = .tuple [.tuple [strD p, strD q, .tuple [.int a, .int b]], .tuple [.int c, .int e]] := by
  obtain ⟨tu, tx, _⟩ := top_in F
  unfold middleD
  generalize hT : topOf pl ts = T
  have hT' : topT (0, pl.headD [], pl.headD []) (pairsOf pl ts) = T := hT
  rw [hT'] at tu tx
  have mf := mid_facts F.tree tu tx
  have pin : ∀ y ∈ path ts T.2.1 T.2.2, y ∈ pl := fun y hy => (F.tree.the_way tu tx).inside (fun e he => ⟨(F.tree.ties e he).1, (F.tree.ties e he).2.1⟩) tu y hy
  obtain ⟨c, e, ece⟩ := half_shape T.1
  rw [ece]
  unfold pointD
  by_cases k : 2 * dist ts T.2.1 (hi ts T.2.1 T.2.2) = dist ts T.2.1 T.2.2
  · rw [if_pos k]
    exact ⟨_, _, 0, 1, c, e, pin _ mf.hiM, pin _ mf.hiM, rfl⟩
  · rw [if_neg k]
    obtain ⟨_, _, loM, _⟩ := mf.loE k
    by_cases k2 : pl.idxOf (lo ts T.2.1 T.2.2) < pl.idxOf (hi ts T.2.1 T.2.2)
    · rw [if_pos k2]
      obtain ⟨a, b, eab⟩ := half_shape (dist ts T.2.1 T.2.2 - 2 * dist ts T.2.1 (lo ts T.2.1 T.2.2))
      rw [eab]
      exact ⟨_, _, a, b, c, e, pin _ loM, pin _ mf.hiM, rfl⟩
    · rw [if_neg k2]
      obtain ⟨a, b, eab⟩ := half_shape (2 * dist ts T.2.1 (hi ts T.2.1 T.2.2) - dist ts T.2.1 T.2.2)
      rw [eab]
      exact ⟨_, _, a, b, c, e, pin _ mf.hiM, pin _ loM, rfl⟩
theorem mid_plain {pl : List Nm} {ts : List Tie} (F : Fine pl ts) : Plain 4 (middleD pl ts) := by
  obtain ⟨p, q, a, b, c, e, _, _, ee⟩ := mid_shape F
  rw [ee]
  refine .tup (fun d hd => ?_) (by show 2 ≤ 1000; decide)
  have two : ∀ (k : Nat) (a b : Int), Plain (k + 2) (.tuple [.int a, .int b]) := fun k a b => .tup (fun d hd => by
    rcases List.mem_cons.mp hd with rfl | hd
    · exact .int k _
    · rw [List.mem_singleton.mp hd]
      exact .int k _) (by show 2 ≤ 1000; decide)
  rcases List.mem_cons.mp hd with rfl | hd
  · refine .tup (fun d hd => ?_) (by show 3 ≤ 1000; decide)
    rcases List.mem_cons.mp hd with rfl | hd
    · exact .str 1 _
    · rcases List.mem_cons.mp hd with rfl | hd
      · exact .str 1 _
      · rw [List.mem_singleton.mp hd]
        exact two 0 _ _
  · rw [List.mem_singleton.mp hd]
    exact two 1 _ _
theorem far_plain {pl : List Nm} {ts : List Tie} (F : Fine pl ts) : Plain 4 (farD pl ts) := by
  rw [(farD_top F).1]
  refine .tup (fun d hd => ?_) (by show 3 ≤ 1000; decide)
  rcases List.mem_cons.mp hd with rfl | hd
  · exact .int 2 _
  · rcases List.mem_cons.mp hd with rfl | hd
    · exact .str 2 _
    · rw [List.mem_singleton.mp hd]
      exact .str 2 _
/-- the deck, the kept tree, the law's own tree -/
structure L28 (C : Addr) (H : Hp) (d c p : Addr) (n : Nat) (v : V) (pl : List Nm) (ts : List Tie) : Prop where
  dk : DeckAt H d c n
  ka : KeptZ C H p pl ts
  dt : Dt H v (treeD pl ts)
  pz : PlZ H v pl
  gd : Good pl ts
theorem L28.deck {C : Addr} {H H' : Hp} {d c p : Addr} {n m : Nat} {v : V} {pl : List Nm} {ts : List Tie} (L : L28 C H d c p n v pl ts) (s : SmX d H H') (D : DeckAt H' d c m) : L28 C H' d c p m v pl ts :=
  ⟨D, L.ka.deck L.dk s, Dt.keep (L.dk.tk s) L.dt, L.pz.keep (L.dk.tk s), L.gd⟩
theorem L28.same {C : Addr} {H H' : Hp} {d c p : Addr} {n : Nat} {v : V} {pl : List Nm} {ts : List Tie} (L : L28 C H d c p n v pl ts) (s : Same H H') : L28 C H' d c p n v pl ts := L.deck (SmX.of s) (L.dk.same s)
theorem L28.mono {C : Addr} {H : Hp} {d c p : Addr} {n m : Nat} {v : V} {pl : List Nm} {ts : List Tie} (L : L28 C H d c p n v pl ts) (h : n ≤ m) : L28 C H d c p m v pl ts := ⟨L.dk.mono h, L.ka, L.dt, L.pz, L.gd⟩
theorem tk_ins {H H' : Hp} {p C dx : Addr} {fs : List (Str × V)} (hp : H p = some (.ins C dx fs)) (s : SmX p H H') : TK H H' := ⟨fun b' ys hb' => s b' _ (ne_of hb' hp (by intro z; cases z)) hb', fun b' o' ys hb' => s b' _ (ne_of hb' hp (by intro z; cases z)) hb'⟩
abbrev s_KeptTree_farthest_now : Stmt := inClass (topS 24) 5
abbrev N_KeptTree_farthest_now : List Str := ["self"]
theorem sc_KeptTree_farthest_now : FnScope N_KeptTree_farthest_now ["self"] (defScope s_KeptTree_farthest_now) := ⟨rfl, rfl, rfl, by decide +kernel, rfl, by decide +kernel, by decide +kernel⟩
abbrev s_KeptTree_middle_now : Stmt := inClass (topS 24) 6
abbrev N_KeptTree_middle_now : List Str := ["self"]
theorem sc_KeptTree_middle_now : FnScope N_KeptTree_middle_now ["self"] (defScope s_KeptTree_middle_now) := ⟨rfl, rfl, rfl, by decide +kernel, rfl, by decide +kernel, by decide +kernel⟩
section
variable {P : Program} {w : World} {K : PySem.W.Frag} {mg : Str → Option Value} {base : Heap} {C J aN : Addr}
def spFarNow (C : Addr) : Sp := fun vs H Q _ => ∃ (p : Addr) (pl : List Nm) (ts : List Tie), vs = [.ref p] ∧ KeptAt C H p pl ts ∧ Fine pl ts ∧ ∀ (H' : Hp) (r : V), Same H H' → Dt H' r (farD pl ts) → Q r H'
theorem ok_far_now {f : Addr} {fd : FuncData} (T : KtC K C) (F : Fun K "farthest_now" "KeptTree.farthest_now" s_KeptTree_farthest_now f fd) (Cfarthest : Cal P w K mg base 5 "farthest" spFarthest) : FnOk P w K mg base (L2.CX P w) 6 f fd ["self"] (spFarNow C) := by
  refine F.okX sc_KeptTree_farthest_now (fun vs H Q E h => ?_) (fun cdv A outer s H vs Q E hr h => ?_)
  · obtain ⟨p, pl, ts, rfl, _⟩ := h
    rfl
  · obtain ⟨p, pl, ts, rfl, ⟨dx, v, hp, hv⟩, fine, q⟩ := h
    refine ⟨_, (pss_one (ps_ret (pe_c Cfarthest hr (by decide) rfl (pa_cons (pe_fld (pv 0) rfl) pa_nil)))), ?_⟩
    exact ⟨_, rfl, p, C, dx, _, v, rfl, hp, T.cl, T.nT, rfl, v, pl, ts, rfl, hv, fine, q⟩
def spMidNow (C : Addr) : Sp := fun vs H Q _ => ∃ (p : Addr) (pl : List Nm) (ts : List Tie), vs = [.ref p] ∧ KeptZ C H p pl ts ∧ Fine pl ts ∧ ∀ (H' : Hp) (r : V), Same H H' → Dt H' r (middleD pl ts) → Q r H'
theorem ok_mid_now {f : Addr} {fd : FuncData} (T : KtC K C) (F : Fun K "middle_now" "KeptTree.middle_now" s_KeptTree_middle_now f fd) (Cmiddle_point : Cal P w K mg base 6 "middle_point" spMp) : FnOk P w K mg base (L2.CX P w) 7 f fd ["self"] (spMidNow C) := by
  refine F.okX sc_KeptTree_middle_now (fun vs H Q E h => ?_) (fun cdv A outer s H vs Q E hr h => ?_)
  · obtain ⟨p, pl, ts, rfl, _⟩ := h
    rfl
  · obtain ⟨p, pl, ts, rfl, ⟨dx, v, hp, hv, hz⟩, fine, q⟩ := h
    refine ⟨_, (pss_one (ps_ret (pe_c Cmiddle_point hr (by decide) rfl (pa_cons (pe_fld (pv 0) rfl) pa_nil)))), ?_⟩
    exact ⟨_, rfl, p, C, dx, _, v, rfl, hp, T.cl, T.nT, rfl, v, pl, ts, rfl, hv, hz, fine, q⟩
end
abbrev s_law_as_due : Stmt := topS 44
abbrev N_law_as_due : List Str := ["deck", "kept", "tree", "begin", "way"]
theorem sc_law_as_due : FnScope N_law_as_due ["deck", "kept", "tree"] (defScope s_law_as_due) := ⟨rfl, rfl, rfl, by decide +kernel, rfl, by decide +kernel, by decide +kernel⟩
section
variable {P : Program} {w : World} {K : PySem.W.Frag} {mg : Str → Option Value} {base : Heap} {C J aN : Addr}
def spDue (C : Addr) : Sp := fun vs H Q _ => ∃ (d c p : Addr) (v : V) (n : Nat) (pl : List Nm) (ts : List Tie), vs = [.ref d, .ref p, v] ∧ L28 C H d c p n v pl ts ∧ n < 50000 ∧ ∀ H' : Hp, L28 C H' d c p (n + 1) v pl ts → Q (.bl true) H'
theorem ok_due {f : Addr} {fd : FuncData} (F : Fun K "_law_as_due" "_law_as_due" s_law_as_due f fd) (C_law_next : Cal P w K mg base 2 "_law_next" spNext) (C_law_same : Cal P w K mg base 5 "_law_same" (spSame 4)) (C_law_farthest : Cal P w K mg base 4 "_law_farthest" spLFar) (C_law_middle : Cal P w K mg base 5 "_law_middle" spLMid) (Mfarthest_now : CalM P w K mg base 6 C "farthest_now" (spFarNow C)) (Mmiddle_now : CalM P w K mg base 7 C "middle_now" (spMidNow C)) : FnOk P w K mg base CX0 8 f fd ["deck", "kept", "tree"] (spDue C) := by
  refine F.ok sc_law_as_due (fun vs H Q E h => ?_) (fun cdv A outer s H vs Q E hr h => ?_)
  · obtain ⟨d, c, p, v, n, pl, ts, rfl, _⟩ := h
    rfl
  · obtain ⟨d, c, p, v, n, pl, ts, rfl, L, hn, q⟩ := h
    have G := L.gd
    have fine := G.fine
    have p30 := G.len
    refine ⟨_, (pss_cons (ps_set (i := 3) sc_law_as_due.nd rfl (.inl rfl) (pe_c C_law_next hr (by decide) rfl (pa_cons (pv 0) (pa_cons pe_int pa_nil))))
      (pss_cut (ps_for PassesOwn.never rfl (pi_list (pe_lst (pa_cons (pv 3) (pa_cons (pe_op op_sub pe_int (pv 3)) (pa_cons (pv 3) pa_nil))))) (pg_name (i := 4) sc_law_as_due.nd rfl (.inl rfl))
        (pss_cut (ps_if (PW.pt (pw_and (pt_cmpR op_eq (pv 4) pe_int (nomark _)) (pw_and1 (pt_not (pt_val (pe_c C_law_same hr (by decide) rfl (pa_cons (pe_mX0 takes0 Mfarthest_now hr (by decide) (pv 1)) (pa_cons (pe_c C_law_farthest hr (by decide) rfl (pa_cons (pv 2) pa_nil)) pa_nil))))))))
          (pss_one (ps_ret pe_bl))
          pss_nil)
        (pss_one (ps_if (PW.pt (pw_and (pt_cmpR op_eq (pv 4) pe_int (nomark _)) (pw_and1 (pt_not (pt_val (pe_c C_law_same hr (by decide) rfl (pa_cons (pe_mX0 takes0 Mmiddle_now hr (by decide) (pv 1)) (pa_cons (pe_c C_law_middle hr (by decide) rfl (pa_cons (pv 2) pa_nil)) pa_nil))))))))
          (pss_one (ps_ret pe_bl))
          pss_nil))))
      (pss_one (ps_ret pe_bl)))), ?_⟩
    refine ⟨_, rfl, d, c, _, 2, rfl, L.dk, by omega, by decide, by decide, fun H1 r r0 r1 S1 D1 => ?_⟩
    have L1 := L.deck S1 D1
    refine ⟨fun σ' H' => (∃ x4, σ' = [some (.ref d), some (.ref p), some v, some (.int r), x4]) ∧ L28 C H' d c p (n + 1) v pl ts, ?_, fun σ' H' hM => ?_⟩
    · refine ⟨_, rfl, _, rfl, _, _, rfl, rfl, _, rfl, (by show 3 ≤ sizeLine; decide), fun l nl => ?_⟩
      have L2 := L1.same (same_new (o := .lst [.int r, .int (1 - r), .int r]) (Same.refl _) nl)
      have hl : (upd H1 l (.lst [.int r, .int (1 - r), .int r])) l = some (.lst [.int r, .int (1 - r), .int r]) := upd_same
      generalize upd H1 l (.lst [.int r, .int (1 - r), .int r]) = H2 at L2 hl
      refine ⟨l, rfl, ⟨_, SqL.of hl⟩, for_list (K := K) (a := l) (xs := [.int r, .int (1 - r), .int r]) (fun i σ' H' => (∃ x4, σ' = [some (.ref d), some (.ref p), some v, some (.int r), x4]) ∧ Same H2 H') ⟨⟨none, rfl⟩, Same.refl _⟩ (fun i σ' H' _ hP => SqL.of (hP.2 _ _ hl)) (fun i x σ' H' hi hP => ?_) (fun σ' H' hP => ⟨hP.1, L2.same hP.2⟩)⟩
      obtain ⟨⟨x4, rfl⟩, SM⟩ := hP
      obtain ⟨m, rfl⟩ : ∃ m : Int, x = .int m := by
        match i, hi with
        | 0, hi => exact ⟨_, (Option.some.inj hi).symm⟩
        | 1, hi => exact ⟨_, (Option.some.inj hi).symm⟩
        | 2, hi => exact ⟨_, (Option.some.inj hi).symm⟩
      refine ⟨fun σ2 H3 => σ2 = [some (.ref d), some (.ref p), some v, some (.int r), some (.int m)] ∧ Same H2 H3, ?_, fun σ2 H3 hM => ?_⟩
      · refine ⟨_, rfl, rfl, _, rfl, ?_⟩
        refine ite2 (fun z => ?_) (fun z => iteF ⟨rfl, SM⟩)
        have L3 := L2.same SM
        obtain ⟨dx, vv, hp, _⟩ := id L3.ka
        refine ⟨_, rfl, p, dx, _, rfl, hp, no_tree (by decide +kernel), p, pl, ts, rfl, L3.ka.at, fine, fun H4 r4 S4 h4 => ?_⟩
        refine ⟨_, rfl, v, pl, ts, rfl, (L3.same S4).dt, fine, by omega, fun H5 r5 S5 h5 => ?_⟩
        refine ⟨_, _, farD pl ts, rfl, Dt.keep (TK.of S5) h4, h5, far_plain fine, fun H6 S6 => ?_⟩
        exact ⟨_, rfl, iteF ⟨rfl, SM.trans (S4.trans (S5.trans S6))⟩⟩
      · obtain ⟨rfl, SM⟩ := hM
        refine ⟨_, rfl, rfl, _, rfl, ?_⟩
        refine ite2 (fun z => ?_) (fun z => iteF ⟨⟨_, rfl⟩, SM⟩)
        have L3 := L2.same SM
        obtain ⟨dx, vv, hp, _⟩ := id L3.ka
        refine ⟨_, rfl, p, dx, _, rfl, hp, no_tree (by decide +kernel), p, pl, ts, rfl, L3.ka, fine, fun H4 r4 S4 h4 => ?_⟩
        refine ⟨_, rfl, v, pl, ts, rfl, (L3.same S4).dt, (L3.same S4).pz, fine, by omega, fun H5 r5 S5 h5 => ?_⟩
        refine ⟨_, _, middleD pl ts, rfl, Dt.keep (TK.of S5) h4, h5, mid_plain fine, fun H6 S6 => ?_⟩
        exact ⟨_, rfl, iteF ⟨⟨_, rfl⟩, SM.trans (S4.trans (S5.trans S6))⟩⟩
    · obtain ⟨⟨x4, rfl⟩, L4⟩ := hM
      exact q _ L4
end
end Far

namespace Far
open PySem PySem.Spec PyProof.Rows L2
open C8 (pss_cut tCut)
open SX (S)
abbrev s_law_deck : Stmt := topS 29
abbrev N_law_deck : List Str := ["script"]
theorem sc_law_deck : FnScope N_law_deck ["script"] (defScope s_law_deck) := ⟨rfl, rfl, rfl, by decide +kernel, rfl, by decide +kernel, by decide +kernel⟩
section
variable {P : Program} {w : World} {K : PySem.W.Frag} {mg : Str → Option Value} {base : Heap}
theorem cut_all (xs : List V) (h : xs.length ≤ 63) : cutV xs none (some 63) = xs := by
  unfold cutV
  rw [HT.sIx_none, show HT.sIx xs.length xs.length (some 63) = min 63 xs.length from HT.sIx_nat _ _ 63, Nat.min_eq_right h, List.drop_zero, Nat.sub_zero]
  exact List.take_length
theorem cut_one (x : V) (r : List V) : cutV (x :: r) (some 1) none = r := by
  unfold cutV
  rw [show HT.sIx (x :: r).length 0 (some 1) = min 1 (x :: r).length from HT.sIx_nat _ 0 1, HT.sIx_none]
  have e : min 1 (x :: r).length = 1 := by rw [List.length_cons]; omega
  rw [e]
  show r.take ((x :: r).length - 1) = r
  rw [List.length_cons, Nat.add_sub_cancel]
  exact List.take_length
theorem not_whole (x : V) (r : List V) : ¬ (HT.sIx (x :: r).length 0 (some 1) = 0 ∧ HT.sIx (x :: r).length (x :: r).length none = (x :: r).length) := by
  rw [show HT.sIx (x :: r).length 0 (some 1) = min 1 (x :: r).length from HT.sIx_nat _ 0 1]
  intro z
  have := z.1
  simp at this
def spDeck (K : PySem.W.Frag) : Sp := fun vs H Q _ => ∃ (a : Addr) (ns : List Int), vs = [.ref a] ∧ SqL K H a (ns.map V.int) ∧ ns.length ≤ 63 ∧ ∀ (H' : Hp) (d c : Addr), Same H H' → H d = none → DeckAt H' d c 0 → Q (.ref d) H'
theorem ok_deck {f : Addr} {fd : FuncData} (F : Fun K "_law_deck" "_law_deck" s_law_deck f fd) (T : Txt mg) : FnOk P w K mg base CX0 1 f fd ["script"] (spDeck K) := by
  refine F.ok sc_law_deck (fun vs H Q E h => ?_) (fun cdv A outer s H vs Q E hr h => ?_)
  · obtain ⟨a, ns, rfl, _⟩ := h
    rfl
  · obtain ⟨a, ns, rfl, hS, hl, q⟩ := h
    refine ⟨_, (pss_one (ps_ret (pe_lst (pa_cons (pe_slice sl_list (pv 0) po_none (po_some pe_int)) (pa_cons pe_int (pa_cons pe_int (pa_cons pe_int (pa_cons (pe_callB (cr_sum rfl) (by rfl) T.sum bt_sum (pa_cons (pe_slice sl_list (pv 0) po_none (po_some pe_int)) pa_nil)) pa_nil)))))))), ?_⟩
    have hl' : (ns.map V.int).length ≤ 63 := by rw [List.length_map]; exact hl
    refine ⟨_, rfl, 63, rfl, a, _, rfl, hS, fun c nc => ?_⟩
    rw [cut_all _ hl']
    have S1 : Same H (upd H c (.lst (ns.map V.int))) := same_new (Same.refl H) nc
    refine ⟨_, rfl, 63, rfl, a, _, rfl, S1.seq hS, fun c2 nc2 => ?_⟩
    rw [cut_all _ hl']
    have S2 := same_new (o := .lst (ns.map V.int)) S1 nc2
    refine ⟨c2, ns, rfl, SqL.of upd_same, (by show 5 ≤ sizeLine; decide), fun d nd => ?_⟩
    have S3 := same_new (o := .lst [.ref c, .int 0, .int 0, .int 0, .int ns.sum]) S2 nd
    have h2 : (upd (upd H c (.lst (ns.map V.int))) c2 (.lst (ns.map V.int))) c = some (.lst (ns.map V.int)) := by
      rw [upd_ne (ne_of_none upd_same nc2)]
      exact upd_same
    exact q _ d c S3 (S2.free nd) ⟨ns, 0, 0, 0, ns.sum, upd_same, by rw [upd_ne (ne_of_none h2 nd)]; exact h2, ne_of_none h2 nd, hl, by omega, by omega, by omega, by omega, by omega⟩
end
end Far

namespace Far
open PySem PySem.Spec PyProof.Rows L2
open C8 (pss_cut tCut)
open SX (S)
abbrev s_law : Stmt := topS 45
abbrev N_law : List Str := ["script", "deck", "tree", "kept", "turn", "told"]
theorem sc_law : FnScope N_law ["script"] (defScope s_law) := ⟨rfl, rfl, rfl, by decide +kernel, rfl, by decide +kernel, by decide +kernel⟩
section
variable {P : Program} {w : World} {K : PySem.W.Frag} {mg : Str → Option Value} {base : Heap} {C J aN : Addr}
def spLaw (K : PySem.W.Frag) : Sp := fun vs H Q _ => ∃ (a : Addr) (ns : List Int), vs = [.ref a] ∧ SqL K H a (ns.map V.int) ∧ ns.length ≤ 63 ∧ ∀ H', Q (.bl true) H'
theorem ok_law {f : Addr} {fd : FuncData} (F : Fun K "law" "law" s_law f fd) (T : Txt mg) (C_law_deck : Cal P w K mg base 1 "_law_deck" (spDeck K)) (C_law_next : Cal P w K mg base 2 "_law_next" spNext) (C_law_tree : Cal P w K mg base 5 "_law_tree" (spTree K)) (C_law_deed : Cal P w K mg base 5 "_law_deed" (spDeed C)) (C_law_as_due : Cal P w K mg base 8 "_law_as_due" (spDue C))
    (MKeptTree : CalK P w K mg base 1 C "KeptTree" (spKInit C)) : FnOk P w K mg base CX0 9 f fd ["script"] (spLaw K) := by
  refine F.ok sc_law (fun vs H Q E h => ?_) (fun cdv A outer s H vs Q E hr h => ?_)
  · obtain ⟨a, ns, rfl, _⟩ := h
    rfl
  · obtain ⟨a0, ns, rfl, hS, hl, q⟩ := h
    refine ⟨_, (pss_cons (ps_set (i := 1) sc_law.nd rfl (.inl rfl) (pe_c C_law_deck hr (by decide) rfl (pa_cons (pv 0) pa_nil)))
      (pss_cons (ps_set (i := 2) sc_law.nd rfl (.inl rfl) (pe_c C_law_tree hr (by decide) rfl (pa_cons (pv 1) (pa_cons pe_int pa_nil))))
      (pss_cons (ps_set (i := 3) sc_law.nd rfl (.inl rfl) (pe_mk MKeptTree hr (by decide) rfl (pa_cons (pv 2) pa_nil)))
      (pss_cut (ps_if (PW.pt (pw_and (pt_cmpR op_eq (pe_c C_law_next hr (by decide) rfl (pa_cons (pv 1) (pa_cons pe_int pa_nil))) pe_int (nomark _)) (pw_and1 (pt_not (pt_val (pe_c C_law_as_due hr (by decide) rfl (pa_cons (pv 1) (pa_cons (pv 3) (pa_cons (pv 2) pa_nil)))))))))
        (pss_one (ps_ret pe_bl))
        pss_nil)
      (pss_cut (ps_for PassesOwn.never rfl (pi_range1 (by rfl) T.range (pa_cons (pe_ix ix_list (pe_lst (pa_cons (pe_c C_law_next hr (by decide) rfl (pa_cons (pv 1) (pa_cons pe_int pa_nil))) (pa_cons pe_int pa_nil))) (pe_callTy call_int1 (by rfl) T.int bt_int (pa_cons (pe_cmpR op_eq (pe_c C_law_next hr (by decide) rfl (pa_cons (pv 1) (pa_cons pe_int pa_nil))) pe_int (nomark _)) pa_nil)) (fun _ _ => rfl)) pa_nil)) (pg_name (i := 4) sc_law.nd rfl (.inl rfl))
        (pss_cons (ps_asg (pe_c C_law_deed hr (by decide) rfl (pa_cons (pv 1) (pa_cons (pv 3) (pa_cons (pv 2) pa_nil)))) (pg_unl rfl (pgs_cons (pg_name (i := 5) sc_law.nd rfl (.inl rfl)) (pgs_cons (pg_name (i := 2) sc_law.nd rfl (.inl rfl)) pgs_nil))))
        (pss_one (ps_if (PW.pt (pw_or (pt_cmpR op_notN (pv 5) pe_non (nomark _)) (pw_or1 (PW.pt (pw_and (pt_cmpR op_eq (pe_c C_law_next hr (by decide) rfl (pa_cons (pv 1) (pa_cons pe_int pa_nil))) pe_int (nomark _)) (pw_and1 (pt_not (pt_val (pe_c C_law_as_due hr (by decide) rfl (pa_cons (pv 1) (pa_cons (pv 3) (pa_cons (pv 2) pa_nil))))))))))))
          (pss_one (ps_ret pe_bl))
          pss_nil))))
      (pss_one (ps_ret (pe_c C_law_as_due hr (by decide) rfl (pa_cons (pv 1) (pa_cons (pv 3) (pa_cons (pv 2) pa_nil))))))))))), ?_⟩
    refine ⟨_, rfl, a0, ns, rfl, hS, hl, fun H0 d c S0 d0 D0 => ?_⟩
    refine ⟨_, rfl, d, c, _, 30, rfl, D0, by omega, by decide, by decide, fun H1 t pl ts it ok pll hd pz S1 D1 => ?_⟩
    refine ⟨_, rfl, fun p dx np ndx nex => ⟨p, dx, .ref t, rfl, upd_same, rfl, ?_⟩⟩
    rw [upd_upd]
    have S2 : Same H1 (upd (upd H1 dx (.own p)) p (.ins C dx [("_tree", .ref t)])) := same_put (same_new (Same.refl _) ndx) np
    have L2 : L28 C (upd (upd H1 dx (.own p)) p (.ins C dx [("_tree", .ref t)])) d c p 800 (.ref t) pl ts := ⟨(D1.same S2).mono (by omega), ⟨dx, _, upd_same, Dt.keep (TK.of S2) hd, pz.same S2⟩, Dt.keep (TK.of S2) hd, pz.same S2, ⟨it, ok, by omega⟩⟩
    generalize upd (upd H1 dx (.own p)) p (.ins C dx [("_tree", .ref t)]) = H2 at L2
    clear hd pz D1 S1 D0 S2 it ok pll
    -- asked at once, or not
    refine ⟨fun σ' H' => σ' = [some (.ref a0), some (.ref d), some (.ref t), some (.ref p), none, none] ∧ L28 C H' d c p 802 (.ref t) pl ts, ?_, fun σ' H3 hM => ?_⟩
    · refine ⟨_, rfl, d, c, _, 2, rfl, L2.dk, by omega, by decide, by decide, fun H3 r r0 r1 S3 D3 => ?_⟩
      have L3 := L2.deck S3 D3
      refine ⟨rfl, _, rfl, ?_⟩
      refine ite2 (fun z => ?_) (fun z => iteF ⟨rfl, L3.mono (by omega)⟩)
      refine ⟨_, rfl, _, rfl, _, rfl, d, c, p, .ref t, _, pl, ts, rfl, L3, by omega, fun H4 L4 => ⟨_, rfl, iteF ⟨rfl, L4⟩⟩⟩
    · obtain ⟨rfl, L3⟩ := hM
      refine ⟨fun σ' H' => ∃ (x4 x5 : Option V) (v : V) (pl : List Nm) (ts : List Tie), σ' = [some (.ref a0), some (.ref d), some v, some (.ref p), x4, x5] ∧ L28 C H' d c p 12000 v pl ts, ?_, fun σ' H' hM => ?_⟩
      · refine ⟨_, rfl, d, c, _, 31, rfl, L3.dk, by omega, by decide, by decide, fun H4 r r0 r1 S4 D4 => ?_⟩
        have L4 := L3.deck S4 D4
        refine ⟨(by show 2 ≤ sizeLine; decide), fun l nl => ?_⟩
        have L5 := L4.same (same_new (o := .lst [.int r, .int 120]) (Same.refl _) nl)
        have hl5 : (upd H4 l (.lst [.int r, .int 120])) l = some (.lst [.int r, .int 120]) := upd_same
        have nld := L4.dk.nd nl
        generalize upd H4 l (.lst [.int r, .int 120]) = H5 at L5 hl5
        refine ⟨_, rfl, d, c, _, 8, rfl, L5.dk, by omega, by decide, by decide, fun H6 r6 r60 r61 S6 D6 => ?_⟩
        have L6 := L5.deck S6 D6
        have hl6 := S6 l _ nld hl5
        obtain ⟨many, idx, hidx, e6, m0, m1⟩ : ∃ (many idx : Int), atI [V.int r, .int 120] idx = some (.int many) ∧ (if decide (V.int r6 = V.int 0) = true then (1 : Int) else 0) = idx ∧ 0 ≤ many ∧ many ≤ 120 := by
          by_cases z : r6 = 0
          · exact ⟨120, 1, atI_nat (j := 1) rfl, by rw [if_pos (by rw [z]; rfl)], by omega, by omega⟩
          · exact ⟨r, 0, atI_nat (j := 0) rfl, by rw [if_neg (by simpa using fun e => z e)], by omega, by omega⟩
        refine ⟨rfl, .inr ⟨_, rfl, l, _, idx, .int many, rfl, by rw [e6], SqL.of hl6, hidx, many, rfl, by omega, by omega, ?_⟩⟩
        refine for_range (lo := 0) (n := many.toNat) (fun i σ' H' => ∃ (x4 x5 : Option V) (v : V) (pl : List Nm) (ts : List Tie), σ' = [some (.ref a0), some (.ref d), some v, some (.ref p), x4, x5] ∧ L28 C H' d c p (810 + 75 * i) v pl ts) ⟨none, none, .ref t, pl, ts, rfl, L6.mono (by omega)⟩ (fun i σ' H' hi hP => ?_) (fun σ' H' hP => ?_)
        · obtain ⟨x4, x5, v, pl, ts, rfl, L⟩ := hP
          refine ⟨_, rfl, _, rfl, _, rfl, d, c, p, v, _, pl, ts, rfl, L.dk, by omega, L.ka, L.dt, L.pz, L.gd, fun H8 r8 w8 pl' ts' hr hw hwz hK hG SD tk8 D8 => ?_⟩
          have L8 : L28 C H8 d c p (810 + 75 * i + 70) w8 pl' ts' := ⟨D8, hK, hw, hwz, hG⟩
          refine ⟨r8, _, rfl, SqL.of hr, rfl, _, _, rfl, _, _, rfl, rfl, ?_⟩
          refine ⟨_, rfl, rfl, _, rfl, iteF' (by simp) ?_⟩
          refine ⟨_, rfl, d, c, _, 12, rfl, L8.dk, by omega, by decide, by decide, fun H9 r9 r90 r91 S9 D9 => ?_⟩
          have L9 := L8.deck S9 D9
          refine ⟨rfl, _, rfl, ?_⟩
          refine ite2 (fun z => ?_) (fun z => iteF ⟨_, _, w8, pl', ts', rfl, L9.mono (by omega)⟩)
          refine ⟨_, rfl, _, rfl, _, rfl, d, c, p, w8, _, pl', ts', rfl, L9, by omega, fun HA LA => ⟨_, rfl, iteF ⟨_, _, w8, pl', ts', rfl, LA.mono (by omega)⟩⟩⟩
        · obtain ⟨x4, x5, v, pl, ts, rfl, L⟩ := hP
          exact ⟨x4, x5, v, pl, ts, rfl, L.mono (by omega)⟩
      · obtain ⟨x4, x5, v, pl', ts', rfl, L⟩ := hM
        exact ⟨_, rfl, _, rfl, _, rfl, d, c, p, v, _, pl', ts', rfl, L, by omega, fun H4 L4 => q _⟩
end
end Far

namespace Far
open PySem PySem.Spec PyProof.Rows L2
theorem same_none {P : Program} {w : World} {K : PySem.W.Frag} {mg : Str → Option Value} {base : Heap} {f : Addr} {fd : FuncData} : FnOk P w K mg base CX0 1 f fd ["found", "due"] (spSame 0) :=
  ⟨fun vs H Q E h => by obtain ⟨u, v, d, rfl, _⟩ := h; rfl, fun A outer s H args us vs Q E hr e b v h => by obtain ⟨_, _, _, _, _, _, hp, _⟩ := h; cases hp⟩
theorem kit_own {K : PySem.W.Frag} {t : Value} {C : Addr} {b : Bool} {cd : ClassData} (ne : (t == Value.ref C) = false) (h1 : PySem.W.clsIn K C = some cd) (h2 : PySem.W.typeIn K (.ref C) = some (.type "type")) (h3 : PySem.W.subIn K t (.ref C) = some b) : PySem.W.kitOne K t (.ref C) = some b := by
  unfold PySem.W.kitOne PySem.W.kitCls
  rw [if_neg (by rw [ne]; decide)]
  show (if ((PySem.W.clsIn K C).isSome && PySem.W.typeIn K (.ref C) == some (.type "type")) = true then PySem.W.subIn K t (.ref C) else none) = some b
  rw [if_pos (by rw [h1, h2]; rfl)]
  exact h3
theorem kit_ve {K : PySem.W.Frag} {a : Addr} (h : PySem.W.subIn K (.ref a) (.type "ValueError") = some true) : PySem.W.kitOne K (.ref a) (.type "ValueError") = some true := by
  unfold PySem.W.kitOne PySem.W.kitCls
  rw [if_neg (by show ¬ (Value.ref a == Value.type "ValueError") = true; intro z; cases (eq_of_beq z))]
  show (if PySem.W.kitMeta "ValueError" = true then PySem.W.subIn K (.ref a) (.type "ValueError") else none) = some true
  rw [if_pos (by decide +kernel)]
  exact h
theorem exm_own {K : PySem.W.Frag} {t : Value} {C : Addr} {b : Bool} {cd : ClassData} (h0 : PySem.W.subIn K (.ref C) (.type "BaseException") = some true) (h1 : PySem.W.clsIn K C = some cd) (h2 : PySem.W.typeIn K (.ref C) = some (.type "type")) (h3 : PySem.W.subIn K t (.ref C) = some b) : PySem.W.exmOne K t (.ref C) = some b := by
  unfold PySem.W.exmOne PySem.W.kitCls
  rw [if_pos (by rw [h0]; rfl)]
  show (if ((PySem.W.clsIn K C).isSome && PySem.W.typeIn K (.ref C) == some (.type "type")) = true then PySem.W.subIn K t (.ref C) else none) = some b
  rw [if_pos (by rw [h1, h2]; rfl)]
  exact h3
theorem all_mk {l : PySem.W.OpenLaw} {w : World} {K : PySem.W.Frag} {h : Heap} {mg : Str → Option Value} {fa f1 f2 f3 f4 f5 f6 f7 f8 f9 f10 f11 f12 f13 f14 f15 f16 f17 f18 f19 f20 f21 f22 f23 f24 f25 f26 f27 f28 f29 f30 f31 f32 f33 : Addr} (X : K.In h) (G : h.Ns mainGlobals mg) (hfa : mg "law" = some (.ref fa))
    {od1 od2 od3 od4 od5 od6 od7 od8 od9 od10 od11 od12 od13 od14 od15 od16 od17 od18 od19 od20 od21 od22 od23 od24 od25 od26 od27 od28 od29 od30 od31 od32 od33 an1 an2 an3 an4 an5 an6 an7 an8 an9 an10 an11 an12 an13 an14 an15 an16 an17 an18 an19 an20 an21 an22 an23 an24 an25 an26 an27 an28 an29 an30 an31 an32 an33 : Option Addr} {sl1 sl2 sl3 sl4 sl5 sl6 sl7 sl8 sl9 sl10 sl11 sl12 sl13 sl14 sl15 sl16 sl17 sl18 sl19 sl20 sl21 sl22 sl23 sl24 sl25 sl26 sl27 sl28 sl29 sl30 sl31 sl32 sl33 : Array (Option Value)} {oc1 oc2 oc3 oc4 oc5 oc6 oc7 oc8 oc9 oc10 oc11 oc12 oc13 oc14 oc15 oc16 oc17 oc18 oc19 oc20 oc21 oc22 oc23 oc24 oc25 oc26 oc27 oc28 oc29 oc30 oc31 oc32 oc33 kV1 kV2 kV3 kV4 kV5 kV6 kV7 kV8 kV9 kV10 kV11 kV12 kV13 kV14 kV15 kV16 kV17 kV18 kV19 kV20 kV21 kV22 kV23 kV24 kV25 kV26 kV27 kV28 kV29 kV30 kV31 kV32 kV33 dc1 dc2 dc3 dc4 dc5 dc6 dc7 dc8 dc9 dc10 dc11 dc12 dc13 dc14 dc15 dc16 dc17 dc18 dc19 dc20 dc21 dc22 dc23 dc24 dc25 dc26 dc27 dc28 dc29 dc30 dc31 dc32 dc33 pm1 pm2 pm3 pm4 pm5 pm6 pm7 pm8 pm9 pm10 pm11 pm12 pm13 pm14 pm15 pm16 pm17 pm18 pm19 pm20 pm21 pm22 pm23 pm24 pm25 pm26 pm27 pm28 pm29 pm30 pm31 pm32 pm33 cd1 cd2 cd3 cd4 cd5 cd6 cd7 cd8 cd9 cd10 cd11 cd12 cd13 cd14 cd15 cd16 cd17 cd18 cd19 cd20 cd21 cd22 cd23 cd24 cd25 cd26 cd27 cd28 cd29 cd30 cd31 cd32 cd33 ct1 ct2 ct3 ct4 ct5 ct6 ct7 ct8 ct9 ct10 ct11 ct12 ct13 ct14 ct15 ct16 ct17 ct18 ct19 ct20 ct21 ct22 ct23 ct24 ct25 ct26 ct27 ct28 ct29 ct30 ct31 ct32 ct33 : Value}
    {aN aJ aF : Addr} {clN clJ clF : ClassData} {fNI NN : Addr} {nmN qN : Str} {bsN bmN subN : List Value} {snN : List Str} {abN : Bool} {colN : Option Bool} {ddN odNI anNI : Option Addr} {jN0 jN1 jN2 jN3 jN5 : Option Value} {ocNI kVNI dcNI pmNI cdNI ctNI : Value} {slNI : Array (Option Value)} {cKeptTree : Addr} {fKeptTreeinit : Addr} {odKeptTreeinit anKeptTreeinit : Option Addr} {slKeptTreeinit : Array (Option Value)} {ocKeptTreeinit kVKeptTreeinit dcKeptTreeinit pmKeptTreeinit cdKeptTreeinit ctKeptTreeinit : Value} {fKeptTreeput_leaf : Addr} {odKeptTreeput_leaf anKeptTreeput_leaf : Option Addr} {slKeptTreeput_leaf : Array (Option Value)} {ocKeptTreeput_leaf kVKeptTreeput_leaf dcKeptTreeput_leaf pmKeptTreeput_leaf cdKeptTreeput_leaf ctKeptTreeput_leaf : Value} {fKeptTreetake_leaf : Addr} {odKeptTreetake_leaf anKeptTreetake_leaf : Option Addr} {slKeptTreetake_leaf : Array (Option Value)} {ocKeptTreetake_leaf kVKeptTreetake_leaf dcKeptTreetake_leaf pmKeptTreetake_leaf cdKeptTreetake_leaf ctKeptTreetake_leaf : Value} {fKeptTreelengthen : Addr} {odKeptTreelengthen anKeptTreelengthen : Option Addr} {slKeptTreelengthen : Array (Option Value)} {ocKeptTreelengthen kVKeptTreelengthen dcKeptTreelengthen pmKeptTreelengthen cdKeptTreelengthen ctKeptTreelengthen : Value} {fKeptTreefarthest_now : Addr} {odKeptTreefarthest_now anKeptTreefarthest_now : Option Addr} {slKeptTreefarthest_now : Array (Option Value)} {ocKeptTreefarthest_now kVKeptTreefarthest_now dcKeptTreefarthest_now pmKeptTreefarthest_now cdKeptTreefarthest_now ctKeptTreefarthest_now : Value} {fKeptTreemiddle_now : Addr} {odKeptTreemiddle_now anKeptTreemiddle_now : Option Addr} {slKeptTreemiddle_now : Array (Option Value)} {ocKeptTreemiddle_now kVKeptTreemiddle_now dcKeptTreemiddle_now pmKeptTreemiddle_now cdKeptTreemiddle_now ctKeptTreemiddle_now : Value}
    (a1 : PySem.W.nsIn K mainGlobals "_law_mix" = some (some (.ref f1))) (l1 : K.lookup f1 = some ⟨oc1, od1, .func (PySem.W.fnOf "_law_mix" "_law_mix" (defArgs s_law_mix) (defBody s_law_mix) (defScope s_law_mix) .none kV1 dc1 pm1 an1 cd1 ct1), sl1⟩) (c1 : PySem.W.codeIn K cd1 "_law_mix" = true) (k1 : PySem.W.keepIn K (.ref f1) = true)
    (a2 : PySem.W.nsIn K mainGlobals "_law_deck" = some (some (.ref f2))) (l2 : K.lookup f2 = some ⟨oc2, od2, .func (PySem.W.fnOf "_law_deck" "_law_deck" (defArgs s_law_deck) (defBody s_law_deck) (defScope s_law_deck) .none kV2 dc2 pm2 an2 cd2 ct2), sl2⟩) (c2 : PySem.W.codeIn K cd2 "_law_deck" = true) (k2 : PySem.W.keepIn K (.ref f2) = true)
    (a3 : PySem.W.nsIn K mainGlobals "_law_next" = some (some (.ref f3))) (l3 : K.lookup f3 = some ⟨oc3, od3, .func (PySem.W.fnOf "_law_next" "_law_next" (defArgs s_law_next) (defBody s_law_next) (defScope s_law_next) .none kV3 dc3 pm3 an3 cd3 ct3), sl3⟩) (c3 : PySem.W.codeIn K cd3 "_law_next" = true) (k3 : PySem.W.keepIn K (.ref f3) = true)
    (a4 : PySem.W.nsIn K mainGlobals "_law_name" = some (some (.ref f4))) (l4 : K.lookup f4 = some ⟨oc4, od4, .func (PySem.W.fnOf "_law_name" "_law_name" (defArgs s_law_name) (defBody s_law_name) (defScope s_law_name) .none kV4 dc4 pm4 an4 cd4 ct4), sl4⟩) (c4 : PySem.W.codeIn K cd4 "_law_name" = true) (k4 : PySem.W.keepIn K (.ref f4) = true)
    (a5 : PySem.W.nsIn K mainGlobals "_law_names" = some (some (.ref f5))) (l5 : K.lookup f5 = some ⟨oc5, od5, .func (PySem.W.fnOf "_law_names" "_law_names" (defArgs s_law_names) (defBody s_law_names) (defScope s_law_names) .none kV5 dc5 pm5 an5 cd5 ct5), sl5⟩) (c5 : PySem.W.codeIn K cd5 "_law_names" = true) (k5 : PySem.W.keepIn K (.ref f5) = true)
    (a6 : PySem.W.nsIn K mainGlobals "_law_tree" = some (some (.ref f6))) (l6 : K.lookup f6 = some ⟨oc6, od6, .func (PySem.W.fnOf "_law_tree" "_law_tree" (defArgs s_law_tree) (defBody s_law_tree) (defScope s_law_tree) .none kV6 dc6 pm6 an6 cd6 ct6), sl6⟩) (c6 : PySem.W.codeIn K cd6 "_law_tree" = true) (k6 : PySem.W.keepIn K (.ref f6) = true)
    (a7 : PySem.W.nsIn K mainGlobals "_law_lengths" = some (some (.ref f7))) (l7 : K.lookup f7 = some ⟨oc7, od7, .func (PySem.W.fnOf "_law_lengths" "_law_lengths" (defArgs s_law_lengths) (defBody s_law_lengths) (defScope s_law_lengths) .none kV7 dc7 pm7 an7 cd7 ct7), sl7⟩) (c7 : PySem.W.codeIn K cd7 "_law_lengths" = true) (k7 : PySem.W.keepIn K (.ref f7) = true)
    (a8 : PySem.W.nsIn K mainGlobals "_law_same" = some (some (.ref f8))) (l8 : K.lookup f8 = some ⟨oc8, od8, .func (PySem.W.fnOf "_law_same" "_law_same" (defArgs s_law_same) (defBody s_law_same) (defScope s_law_same) .none kV8 dc8 pm8 an8 cd8 ct8), sl8⟩) (c8 : PySem.W.codeIn K cd8 "_law_same" = true) (k8 : PySem.W.keepIn K (.ref f8) = true)
    (a9 : PySem.W.nsIn K mainGlobals "_law_all" = some (some (.ref f9))) (l9 : K.lookup f9 = some ⟨oc9, od9, .func (PySem.W.fnOf "_law_all" "_law_all" (defArgs s_law_all) (defBody s_law_all) (defScope s_law_all) .none kV9 dc9 pm9 an9 cd9 ct9), sl9⟩) (c9 : PySem.W.codeIn K cd9 "_law_all" = true) (k9 : PySem.W.keepIn K (.ref f9) = true)
    (a10 : PySem.W.nsIn K mainGlobals "_law_farthest" = some (some (.ref f10))) (l10 : K.lookup f10 = some ⟨oc10, od10, .func (PySem.W.fnOf "_law_farthest" "_law_farthest" (defArgs s_law_farthest) (defBody s_law_farthest) (defScope s_law_farthest) .none kV10 dc10 pm10 an10 cd10 ct10), sl10⟩) (c10 : PySem.W.codeIn K cd10 "_law_farthest" = true) (k10 : PySem.W.keepIn K (.ref f10) = true)
    (a11 : PySem.W.nsIn K mainGlobals "_law_fraction" = some (some (.ref f11))) (l11 : K.lookup f11 = some ⟨oc11, od11, .func (PySem.W.fnOf "_law_fraction" "_law_fraction" (defArgs s_law_fraction) (defBody s_law_fraction) (defScope s_law_fraction) .none kV11 dc11 pm11 an11 cd11 ct11), sl11⟩) (c11 : PySem.W.codeIn K cd11 "_law_fraction" = true) (k11 : PySem.W.keepIn K (.ref f11) = true)
    (a12 : PySem.W.nsIn K mainGlobals "_law_middle" = some (some (.ref f12))) (l12 : K.lookup f12 = some ⟨oc12, od12, .func (PySem.W.fnOf "_law_middle" "_law_middle" (defArgs s_law_middle) (defBody s_law_middle) (defScope s_law_middle) .none kV12 dc12 pm12 an12 cd12 ct12), sl12⟩) (c12 : PySem.W.codeIn K cd12 "_law_middle" = true) (k12 : PySem.W.keepIn K (.ref f12) = true)
    (a13 : PySem.W.nsIn K mainGlobals "_law_leaves" = some (some (.ref f13))) (l13 : K.lookup f13 = some ⟨oc13, od13, .func (PySem.W.fnOf "_law_leaves" "_law_leaves" (defArgs s_law_leaves) (defBody s_law_leaves) (defScope s_law_leaves) .none kV13 dc13 pm13 an13 cd13 ct13), sl13⟩) (c13 : PySem.W.codeIn K cd13 "_law_leaves" = true) (k13 : PySem.W.keepIn K (.ref f13) = true)
    (a14 : PySem.W.nsIn K mainGlobals "_law_fresh" = some (some (.ref f14))) (l14 : K.lookup f14 = some ⟨oc14, od14, .func (PySem.W.fnOf "_law_fresh" "_law_fresh" (defArgs s_law_fresh) (defBody s_law_fresh) (defScope s_law_fresh) .none kV14 dc14 pm14 an14 cd14 ct14), sl14⟩) (c14 : PySem.W.codeIn K cd14 "_law_fresh" = true) (k14 : PySem.W.keepIn K (.ref f14) = true)
    (a15 : PySem.W.nsIn K mainGlobals "_law_length" = some (some (.ref f15))) (l15 : K.lookup f15 = some ⟨oc15, od15, .func (PySem.W.fnOf "_law_length" "_law_length" (defArgs s_law_length) (defBody s_law_length) (defScope s_law_length) .none kV15 dc15 pm15 an15 cd15 ct15), sl15⟩) (c15 : PySem.W.codeIn K cd15 "_law_length" = true) (k15 : PySem.W.keepIn K (.ref f15) = true)
    (a16 : PySem.W.nsIn K mainGlobals "_ties_of_each" = some (some (.ref f16))) (l16 : K.lookup f16 = some ⟨oc16, od16, .func (PySem.W.fnOf "_ties_of_each" "_ties_of_each" (defArgs s_ties_of_each) (defBody s_ties_of_each) (defScope s_ties_of_each) .none kV16 dc16 pm16 an16 cd16 ct16), sl16⟩) (c16 : PySem.W.codeIn K cd16 "_ties_of_each" = true) (k16 : PySem.W.keepIn K (.ref f16) = true)
    (a17 : PySem.W.nsIn K mainGlobals "walk_from" = some (some (.ref f17))) (l17 : K.lookup f17 = some ⟨oc17, od17, .func (PySem.W.fnOf "walk_from" "walk_from" (defArgs s_walk_from) (defBody s_walk_from) (defScope s_walk_from) .none kV17 dc17 pm17 an17 cd17 ct17), sl17⟩) (c17 : PySem.W.codeIn K cd17 "walk_from" = true) (k17 : PySem.W.keepIn K (.ref f17) = true)
    (a18 : PySem.W.nsIn K mainGlobals "check_places" = some (some (.ref f18))) (l18 : K.lookup f18 = some ⟨oc18, od18, .func (PySem.W.fnOf "check_places" "check_places" (defArgs s_check_places) (defBody s_check_places) (defScope s_check_places) .none kV18 dc18 pm18 an18 cd18 ct18), sl18⟩) (c18 : PySem.W.codeIn K cd18 "check_places" = true) (k18 : PySem.W.keepIn K (.ref f18) = true)
    (a19 : PySem.W.nsIn K mainGlobals "lengths_from" = some (some (.ref f19))) (l19 : K.lookup f19 = some ⟨oc19, od19, .func (PySem.W.fnOf "lengths_from" "lengths_from" (defArgs s_lengths_from) (defBody s_lengths_from) (defScope s_lengths_from) .none kV19 dc19 pm19 an19 cd19 ct19), sl19⟩) (c19 : PySem.W.codeIn K cd19 "lengths_from" = true) (k19 : PySem.W.keepIn K (.ref f19) = true)
    (a20 : PySem.W.nsIn K mainGlobals "length_between" = some (some (.ref f20))) (l20 : K.lookup f20 = some ⟨oc20, od20, .func (PySem.W.fnOf "length_between" "length_between" (defArgs s_length_between) (defBody s_length_between) (defScope s_length_between) .none kV20 dc20 pm20 an20 cd20 ct20), sl20⟩) (c20 : PySem.W.codeIn K cd20 "length_between" = true) (k20 : PySem.W.keepIn K (.ref f20) = true)
    (a21 : PySem.W.nsIn K mainGlobals "way_between" = some (some (.ref f21))) (l21 : K.lookup f21 = some ⟨oc21, od21, .func (PySem.W.fnOf "way_between" "way_between" (defArgs s_way_between) (defBody s_way_between) (defScope s_way_between) .none kV21 dc21 pm21 an21 cd21 ct21), sl21⟩) (c21 : PySem.W.codeIn K cd21 "way_between" = true) (k21 : PySem.W.keepIn K (.ref f21) = true)
    (a22 : PySem.W.nsIn K mainGlobals "pairs_in_order" = some (some (.ref f22))) (l22 : K.lookup f22 = some ⟨oc22, od22, .func (PySem.W.fnOf "pairs_in_order" "pairs_in_order" (defArgs s_pairs_in_order) (defBody s_pairs_in_order) (defScope s_pairs_in_order) .none kV22 dc22 pm22 an22 cd22 ct22), sl22⟩) (c22 : PySem.W.codeIn K cd22 "pairs_in_order" = true) (k22 : PySem.W.keepIn K (.ref f22) = true)
    (a23 : PySem.W.nsIn K mainGlobals "farthest" = some (some (.ref f23))) (l23 : K.lookup f23 = some ⟨oc23, od23, .func (PySem.W.fnOf "farthest" "farthest" (defArgs s_farthest) (defBody s_farthest) (defScope s_farthest) .none kV23 dc23 pm23 an23 cd23 ct23), sl23⟩) (c23 : PySem.W.codeIn K cd23 "farthest" = true) (k23 : PySem.W.keepIn K (.ref f23) = true)
    (a24 : PySem.W.nsIn K mainGlobals "_fraction" = some (some (.ref f24))) (l24 : K.lookup f24 = some ⟨oc24, od24, .func (PySem.W.fnOf "_fraction" "_fraction" (defArgs s_fraction) (defBody s_fraction) (defScope s_fraction) .none kV24 dc24 pm24 an24 cd24 ct24), sl24⟩) (c24 : PySem.W.codeIn K cd24 "_fraction" = true) (k24 : PySem.W.keepIn K (.ref f24) = true)
    (a25 : PySem.W.nsIn K mainGlobals "_half_way" = some (some (.ref f25))) (l25 : K.lookup f25 = some ⟨oc25, od25, .func (PySem.W.fnOf "_half_way" "_half_way" (defArgs s_half_way) (defBody s_half_way) (defScope s_half_way) .none kV25 dc25 pm25 an25 cd25 ct25), sl25⟩) (c25 : PySem.W.codeIn K cd25 "_half_way" = true) (k25 : PySem.W.keepIn K (.ref f25) = true)
    (a26 : PySem.W.nsIn K mainGlobals "middle_point" = some (some (.ref f26))) (l26 : K.lookup f26 = some ⟨oc26, od26, .func (PySem.W.fnOf "middle_point" "middle_point" (defArgs s_middle_point) (defBody s_middle_point) (defScope s_middle_point) .none kV26 dc26 pm26 an26 cd26 ct26), sl26⟩) (c26 : PySem.W.codeIn K cd26 "middle_point" = true) (k26 : PySem.W.keepIn K (.ref f26) = true)
    (a27 : PySem.W.nsIn K mainGlobals "leaves_of" = some (some (.ref f27))) (l27 : K.lookup f27 = some ⟨oc27, od27, .func (PySem.W.fnOf "leaves_of" "leaves_of" (defArgs s_leaves_of) (defBody s_leaves_of) (defScope s_leaves_of) .none kV27 dc27 pm27 an27 cd27 ct27), sl27⟩) (c27 : PySem.W.codeIn K cd27 "leaves_of" = true) (k27 : PySem.W.keepIn K (.ref f27) = true)
    (a28 : PySem.W.nsIn K mainGlobals "part_of" = some (some (.ref f28))) (l28 : K.lookup f28 = some ⟨oc28, od28, .func (PySem.W.fnOf "part_of" "part_of" (defArgs s_part_of) (defBody s_part_of) (defScope s_part_of) .none kV28 dc28 pm28 an28 cd28 ct28), sl28⟩) (c28 : PySem.W.codeIn K cd28 "part_of" = true) (k28 : PySem.W.keepIn K (.ref f28) = true)
    (a29 : PySem.W.nsIn K mainGlobals "_check_length" = some (some (.ref f29))) (l29 : K.lookup f29 = some ⟨oc29, od29, .func (PySem.W.fnOf "_check_length" "_check_length" (defArgs s_check_length) (defBody s_check_length) (defScope s_check_length) .none kV29 dc29 pm29 an29 cd29 ct29), sl29⟩) (c29 : PySem.W.codeIn K cd29 "_check_length" = true) (k29 : PySem.W.keepIn K (.ref f29) = true)
    (a30 : PySem.W.nsIn K mainGlobals "_number_of_tie" = some (some (.ref f30))) (l30 : K.lookup f30 = some ⟨oc30, od30, .func (PySem.W.fnOf "_number_of_tie" "_number_of_tie" (defArgs s_number_of_tie) (defBody s_number_of_tie) (defScope s_number_of_tie) .none kV30 dc30 pm30 an30 cd30 ct30), sl30⟩) (c30 : PySem.W.codeIn K cd30 "_number_of_tie" = true) (k30 : PySem.W.keepIn K (.ref f30) = true)
    (a31 : PySem.W.nsIn K mainGlobals "_law_deed" = some (some (.ref f31))) (l31 : K.lookup f31 = some ⟨oc31, od31, .func (PySem.W.fnOf "_law_deed" "_law_deed" (defArgs s_law_deed) (defBody s_law_deed) (defScope s_law_deed) .none kV31 dc31 pm31 an31 cd31 ct31), sl31⟩) (c31 : PySem.W.codeIn K cd31 "_law_deed" = true) (k31 : PySem.W.keepIn K (.ref f31) = true)
    (a32 : PySem.W.nsIn K mainGlobals "_law_as_due" = some (some (.ref f32))) (l32 : K.lookup f32 = some ⟨oc32, od32, .func (PySem.W.fnOf "_law_as_due" "_law_as_due" (defArgs s_law_as_due) (defBody s_law_as_due) (defScope s_law_as_due) .none kV32 dc32 pm32 an32 cd32 ct32), sl32⟩) (c32 : PySem.W.codeIn K cd32 "_law_as_due" = true) (k32 : PySem.W.keepIn K (.ref f32) = true)
    (a33 : PySem.W.nsIn K mainGlobals "law" = some (some (.ref f33))) (l33 : K.lookup f33 = some ⟨oc33, od33, .func (PySem.W.fnOf "law" "law" (defArgs s_law) (defBody s_law) (defScope s_law) .none kV33 dc33 pm33 an33 cd33 ct33), sl33⟩) (c33 : PySem.W.codeIn K cd33 "law" = true) (k33 : PySem.W.keepIn K (.ref f33) = true)
    (zbool : PySem.W.nsIn K mainGlobals "bool" = some none)
    (zdict : PySem.W.nsIn K mainGlobals "dict" = some none)
    (zenumerate : PySem.W.nsIn K mainGlobals "enumerate" = some none)
    (zint : PySem.W.nsIn K mainGlobals "int" = some none)
    (zisinstance : PySem.W.nsIn K mainGlobals "isinstance" = some none)
    (zlen : PySem.W.nsIn K mainGlobals "len" = some none)
    (zlist : PySem.W.nsIn K mainGlobals "list" = some none)
    (zmax : PySem.W.nsIn K mainGlobals "max" = some none)
    (zrange : PySem.W.nsIn K mainGlobals "range" = some none)
    (zstr : PySem.W.nsIn K mainGlobals "str" = some none)
    (zsum : PySem.W.nsIn K mainGlobals "sum" = some none)
    (ztuple : PySem.W.nsIn K mainGlobals "tuple" = some none)
    (zzip : PySem.W.nsIn K mainGlobals "zip" = some none)
    (zgcd : PySem.W.nsIn K mainGlobals "gcd" = some (some (.builtin "math.gcd")))
    (gNoPlace : PySem.W.nsIn K mainGlobals "NoPlace" = some (some (.ref aN)))
    (cN : PySem.W.clsIn K aN = some clN)
    (yN : PySem.W.typeIn K (.ref aN) = some (.type "type"))
    (gNoJoin : PySem.W.nsIn K mainGlobals "NoJoin" = some (some (.ref aJ)))
    (cJ : PySem.W.clsIn K aJ = some clJ)
    (yJ : PySem.W.typeIn K (.ref aJ) = some (.type "type"))
    (gFarError : PySem.W.nsIn K mainGlobals "FarError" = some (some (.ref aF)))
    (cF : PySem.W.clsIn K aF = some clF)
    (yF : PySem.W.typeIn K (.ref aF) = some (.type "type"))
    (bF : PySem.W.subIn K (.ref aF) (.type "BaseException") = some true)
    (hno : PySem.W.specialIn K (.builtin "object.__class__") "__get__" = some (some (.builtin "getset_descriptor.__get__")))
    (hto : PySem.W.takesIn K (.builtin "object.__class__") = some true)
    (exN : PySem.W.subIn K (.ref aN) (.type "BaseException") = some true)
    (sVN : PySem.W.subIn K (.ref aN) (.type "ValueError") = some true)
    (gaN : PySem.W.findIn K (.ref aN) "__getattribute__" = some (some (.builtin "BaseException.__getattribute__")))
    (ggN : PySem.W.findIn K (.ref aN) "__getattr__" = some none)
    (hdN : PySem.W.hasDictIn K aN = true)
    (haN : PySem.W.findIn K (.ref aN) "__class__" = some (some (.builtin "object.__class__")))
    (hmN : PySem.W.mroIn K aN (.type "object") = some true)
    (kN : PySem.W.keepIn K (.ref aN) = true)
    (sNJ : PySem.W.subIn K (.ref aN) (.ref aJ) = some false)
    (nNJ : (Value.ref aN == Value.ref aJ) = false)
    (sNF : PySem.W.subIn K (.ref aN) (.ref aF) = some true)
    (nNF : (Value.ref aN == Value.ref aF) = false)
    (lN : K.lookup aN = some (excClassObj nmN qN aN NN bsN bmN true snN subN abN colN ddN jN0 jN1 jN2 jN3 jN5 "ValueError.__new__"))
    (rN : PySem.HandSPX.refsVE bmN = true)
    (saN : PySem.W.findIn K (.ref aN) "__setattr__" = some (some (.builtin "object.__setattr__")))
    (iN : PySem.W.findIn K (.ref aN) "__init__" = some (some (.ref fNI)))
    (lNI : K.lookup fNI = some ⟨ocNI, odNI, .func (PySem.W.fnOf "__init__" "NoPlace.__init__" (defArgs s_np_init) (defBody s_np_init) (defScope s_np_init) .none kVNI dcNI pmNI anNI cdNI ctNI), slNI⟩)
    (cNI : PySem.W.codeIn K cdNI "NoPlace.__init__" = true)
    (kNI : PySem.W.keepIn K (.ref fNI) = true)
    (tNI : PySem.W.typeIn K (.ref fNI) = some (.type "function"))
    (noN : PySem.W.findIn K (.ref aN) "name" = some none)
    (rdF : PySem.W.readsIn K aF (.type "type") = true)
    (gaF : PySem.W.specialIn K (.ref aF) "__getattribute__" = some (some (.builtin "type.__getattribute__")))
    (vF : PySem.W.findCls K (.ref aF) (.type "type") "__init__" = some (.val (.builtin "ValueError.__init__")))
    (exJ : PySem.W.subIn K (.ref aJ) (.type "BaseException") = some true)
    (sVJ : PySem.W.subIn K (.ref aJ) (.type "ValueError") = some true)
    (gaJ : PySem.W.findIn K (.ref aJ) "__getattribute__" = some (some (.builtin "BaseException.__getattribute__")))
    (ggJ : PySem.W.findIn K (.ref aJ) "__getattr__" = some none)
    (hdJ : PySem.W.hasDictIn K aJ = true)
    (haJ : PySem.W.findIn K (.ref aJ) "__class__" = some (some (.builtin "object.__class__")))
    (hmJ : PySem.W.mroIn K aJ (.type "object") = some true)
    (kJ : PySem.W.keepIn K (.ref aJ) = true)
    (sJN : PySem.W.subIn K (.ref aJ) (.ref aN) = some false)
    (nJN : (Value.ref aJ == Value.ref aN) = false)
    (sJF : PySem.W.subIn K (.ref aJ) (.ref aF) = some true)
    (nJF : (Value.ref aJ == Value.ref aF) = false)
    (xJ : PySem.W.excIn K aJ [.type "ValueError", .type "Exception", .type "BaseException", .type "object"] "ValueError.__new__" = true)
    (gKeptTree : PySem.W.nsIn K mainGlobals "KeptTree" = some (some (.ref cKeptTree)))
    (pgKeptTree : PySem.W.plainGet K cKeptTree Str.empty = true)
    (hdKeptTree : PySem.W.hasDictIn K cKeptTree = true)
    (poKeptTree : PySem.W.plainOver K cKeptTree = true)
    (saKeptTree : PySem.W.findIn K (.ref cKeptTree) "__setattr__" = some (some (.builtin "object.__setattr__")))
    (mkKeptTree : PySem.W.makesIn K cKeptTree = true)
    (kcKeptTree : PySem.W.keepIn K (.ref cKeptTree) = true)
    (nKeptTree_tree : PySem.W.findIn K (.ref cKeptTree) "_tree" = some none)
    (aKeptTreeinit : PySem.W.findIn K (.ref cKeptTree) "__init__" = some (some (.ref fKeptTreeinit)))
    (iKeptTreeinit : PySem.W.isFn K (.ref fKeptTreeinit) = true)
    (lKeptTreeinit : K.lookup fKeptTreeinit = some ⟨ocKeptTreeinit, odKeptTreeinit, .func (PySem.W.fnOf "__init__" "KeptTree.__init__" (defArgs s_KeptTree_init) (defBody s_KeptTree_init) (defScope s_KeptTree_init) .none kVKeptTreeinit dcKeptTreeinit pmKeptTreeinit anKeptTreeinit cdKeptTreeinit ctKeptTreeinit), slKeptTreeinit⟩)
    (cKeptTreeinit : PySem.W.codeIn K cdKeptTreeinit "KeptTree.__init__" = true)
    (kKeptTreeinit : PySem.W.keepIn K (.ref fKeptTreeinit) = true)
    (aKeptTreeput_leaf : PySem.W.findIn K (.ref cKeptTree) "put_leaf" = some (some (.ref fKeptTreeput_leaf)))
    (iKeptTreeput_leaf : PySem.W.isFn K (.ref fKeptTreeput_leaf) = true)
    (lKeptTreeput_leaf : K.lookup fKeptTreeput_leaf = some ⟨ocKeptTreeput_leaf, odKeptTreeput_leaf, .func (PySem.W.fnOf "put_leaf" "KeptTree.put_leaf" (defArgs s_KeptTree_put_leaf) (defBody s_KeptTree_put_leaf) (defScope s_KeptTree_put_leaf) .none kVKeptTreeput_leaf dcKeptTreeput_leaf pmKeptTreeput_leaf anKeptTreeput_leaf cdKeptTreeput_leaf ctKeptTreeput_leaf), slKeptTreeput_leaf⟩)
    (cKeptTreeput_leaf : PySem.W.codeIn K cdKeptTreeput_leaf "KeptTree.put_leaf" = true)
    (kKeptTreeput_leaf : PySem.W.keepIn K (.ref fKeptTreeput_leaf) = true)
    (aKeptTreetake_leaf : PySem.W.findIn K (.ref cKeptTree) "take_leaf" = some (some (.ref fKeptTreetake_leaf)))
    (iKeptTreetake_leaf : PySem.W.isFn K (.ref fKeptTreetake_leaf) = true)
    (lKeptTreetake_leaf : K.lookup fKeptTreetake_leaf = some ⟨ocKeptTreetake_leaf, odKeptTreetake_leaf, .func (PySem.W.fnOf "take_leaf" "KeptTree.take_leaf" (defArgs s_KeptTree_take_leaf) (defBody s_KeptTree_take_leaf) (defScope s_KeptTree_take_leaf) .none kVKeptTreetake_leaf dcKeptTreetake_leaf pmKeptTreetake_leaf anKeptTreetake_leaf cdKeptTreetake_leaf ctKeptTreetake_leaf), slKeptTreetake_leaf⟩)
    (cKeptTreetake_leaf : PySem.W.codeIn K cdKeptTreetake_leaf "KeptTree.take_leaf" = true)
    (kKeptTreetake_leaf : PySem.W.keepIn K (.ref fKeptTreetake_leaf) = true)
    (aKeptTreelengthen : PySem.W.findIn K (.ref cKeptTree) "lengthen" = some (some (.ref fKeptTreelengthen)))
    (iKeptTreelengthen : PySem.W.isFn K (.ref fKeptTreelengthen) = true)
    (lKeptTreelengthen : K.lookup fKeptTreelengthen = some ⟨ocKeptTreelengthen, odKeptTreelengthen, .func (PySem.W.fnOf "lengthen" "KeptTree.lengthen" (defArgs s_KeptTree_lengthen) (defBody s_KeptTree_lengthen) (defScope s_KeptTree_lengthen) .none kVKeptTreelengthen dcKeptTreelengthen pmKeptTreelengthen anKeptTreelengthen cdKeptTreelengthen ctKeptTreelengthen), slKeptTreelengthen⟩)
    (cKeptTreelengthen : PySem.W.codeIn K cdKeptTreelengthen "KeptTree.lengthen" = true)
    (kKeptTreelengthen : PySem.W.keepIn K (.ref fKeptTreelengthen) = true)
    (aKeptTreefarthest_now : PySem.W.findIn K (.ref cKeptTree) "farthest_now" = some (some (.ref fKeptTreefarthest_now)))
    (iKeptTreefarthest_now : PySem.W.isFn K (.ref fKeptTreefarthest_now) = true)
    (lKeptTreefarthest_now : K.lookup fKeptTreefarthest_now = some ⟨ocKeptTreefarthest_now, odKeptTreefarthest_now, .func (PySem.W.fnOf "farthest_now" "KeptTree.farthest_now" (defArgs s_KeptTree_farthest_now) (defBody s_KeptTree_farthest_now) (defScope s_KeptTree_farthest_now) .none kVKeptTreefarthest_now dcKeptTreefarthest_now pmKeptTreefarthest_now anKeptTreefarthest_now cdKeptTreefarthest_now ctKeptTreefarthest_now), slKeptTreefarthest_now⟩)
    (cKeptTreefarthest_now : PySem.W.codeIn K cdKeptTreefarthest_now "KeptTree.farthest_now" = true)
    (kKeptTreefarthest_now : PySem.W.keepIn K (.ref fKeptTreefarthest_now) = true)
    (aKeptTreemiddle_now : PySem.W.findIn K (.ref cKeptTree) "middle_now" = some (some (.ref fKeptTreemiddle_now)))
    (iKeptTreemiddle_now : PySem.W.isFn K (.ref fKeptTreemiddle_now) = true)
    (lKeptTreemiddle_now : K.lookup fKeptTreemiddle_now = some ⟨ocKeptTreemiddle_now, odKeptTreemiddle_now, .func (PySem.W.fnOf "middle_now" "KeptTree.middle_now" (defArgs s_KeptTree_middle_now) (defBody s_KeptTree_middle_now) (defScope s_KeptTree_middle_now) .none kVKeptTreemiddle_now dcKeptTreemiddle_now pmKeptTreemiddle_now anKeptTreemiddle_now cdKeptTreemiddle_now ctKeptTreemiddle_now), slKeptTreemiddle_now⟩)
    (cKeptTreemiddle_now : PySem.W.codeIn K cdKeptTreemiddle_now "KeptTree.middle_now" = true)
    (kKeptTreemiddle_now : PySem.W.keepIn K (.ref fKeptTreemiddle_now) = true) :
    ∃ fd : FuncData, (∀ (s : Shared) (v : Value), BindsTo s fd ⟨[v], []⟩ [("script", v)]) ∧ ∀ base : Heap, K.In base → base.Ns mainGlobals mg → FnOk l.prog w K mg base CX0 9 fa fd ["script"] (spLaw K) := by
  have e := hfa.symm.trans (PySem.W.mg_of X G a33)
  cases e
  have F1 := fun_mk (st := s_law_mix) l1 c1 k1
  have b1 := F1.binds (ps := ["cell", "k"]) fun _ _ _ _ _ _ us hl => match us, hl with | [_, _], _ => rfl
  have F2 := fun_mk (st := s_law_deck) l2 c2 k2
  have b2 := F2.binds (ps := ["script"]) fun _ _ _ _ _ _ us hl => match us, hl with | [_], _ => rfl
  have F3 := fun_mk (st := s_law_next) l3 c3 k3
  have b3 := F3.binds (ps := ["deck", "many"]) fun _ _ _ _ _ _ us hl => match us, hl with | [_, _], _ => rfl
  have F4 := fun_mk (st := s_law_name) l4 c4 k4
  have b4 := F4.binds (ps := ["deck"]) fun _ _ _ _ _ _ us hl => match us, hl with | [_], _ => rfl
  have F5 := fun_mk (st := s_law_names) l5 c5 k5
  have b5 := F5.binds (ps := ["deck", "many"]) fun _ _ _ _ _ _ us hl => match us, hl with | [_, _], _ => rfl
  have F6 := fun_mk (st := s_law_tree) l6 c6 k6
  have b6 := F6.binds (ps := ["deck", "most"]) fun _ _ _ _ _ _ us hl => match us, hl with | [_, _], _ => rfl
  have F7 := fun_mk (st := s_law_lengths) l7 c7 k7
  have b7 := F7.binds (ps := ["tree", "place"]) fun _ _ _ _ _ _ us hl => match us, hl with | [_, _], _ => rfl
  have F8 := fun_mk (st := s_law_same) l8 c8 k8
  have b8 := F8.binds (ps := ["found", "due"]) fun _ _ _ _ _ _ us hl => match us, hl with | [_, _], _ => rfl
  have F9 := fun_mk (st := s_law_all) l9 c9 k9
  have b9 := F9.binds (ps := ["tree"]) fun _ _ _ _ _ _ us hl => match us, hl with | [_], _ => rfl
  have F10 := fun_mk (st := s_law_farthest) l10 c10 k10
  have b10 := F10.binds (ps := ["tree"]) fun _ _ _ _ _ _ us hl => match us, hl with | [_], _ => rfl
  have F11 := fun_mk (st := s_law_fraction) l11 c11 k11
  have b11 := F11.binds (ps := ["above", "below"]) fun _ _ _ _ _ _ us hl => match us, hl with | [_, _], _ => rfl
  have F12 := fun_mk (st := s_law_middle) l12 c12 k12
  have b12 := F12.binds (ps := ["tree"]) fun _ _ _ _ _ _ us hl => match us, hl with | [_], _ => rfl
  have F13 := fun_mk (st := s_law_leaves) l13 c13 k13
  have b13 := F13.binds (ps := ["tree"]) fun _ _ _ _ _ _ us hl => match us, hl with | [_], _ => rfl
  have F14 := fun_mk (st := s_law_fresh) l14 c14 k14
  have b14 := F14.binds (ps := ["deck", "places"]) fun _ _ _ _ _ _ us hl => match us, hl with | [_, _], _ => rfl
  have F15 := fun_mk (st := s_law_length) l15 c15 k15
  have b15 := F15.binds (ps := ["deck"]) fun _ _ _ _ _ _ us hl => match us, hl with | [_], _ => rfl
  have F16 := fun_mk (st := s_ties_of_each) l16 c16 k16
  have b16 := F16.binds (ps := ["tree"]) fun _ _ _ _ _ _ us hl => match us, hl with | [_], _ => rfl
  have F17 := fun_mk (st := s_walk_from) l17 c17 k17
  have b17 := F17.binds (ps := ["tree", "start"]) fun _ _ _ _ _ _ us hl => match us, hl with | [_, _], _ => rfl
  have F18 := fun_mk (st := s_check_places) l18 c18 k18
  have b18 := F18.binds (ps := ["tree", "names"]) fun _ _ _ _ _ _ us hl => match us, hl with | [_, _], _ => rfl
  have F19 := fun_mk (st := s_lengths_from) l19 c19 k19
  have b19 := F19.binds (ps := ["tree", "place"]) fun _ _ _ _ _ _ us hl => match us, hl with | [_, _], _ => rfl
  have F20 := fun_mk (st := s_length_between) l20 c20 k20
  have b20 := F20.binds (ps := ["tree", "one", "other"]) fun _ _ _ _ _ _ us hl => match us, hl with | [_, _, _], _ => rfl
  have F21 := fun_mk (st := s_way_between) l21 c21 k21
  have b21 := F21.binds (ps := ["tree", "one", "other"]) fun _ _ _ _ _ _ us hl => match us, hl with | [_, _, _], _ => rfl
  have F22 := fun_mk (st := s_pairs_in_order) l22 c22 k22
  have b22 := F22.binds (ps := ["tree"]) fun _ _ _ _ _ _ us hl => match us, hl with | [_], _ => rfl
  have F23 := fun_mk (st := s_farthest) l23 c23 k23
  have b23 := F23.binds (ps := ["tree"]) fun _ _ _ _ _ _ us hl => match us, hl with | [_], _ => rfl
  have F24 := fun_mk (st := s_fraction) l24 c24 k24
  have b24 := F24.binds (ps := ["above", "below"]) fun _ _ _ _ _ _ us hl => match us, hl with | [_, _], _ => rfl
  have F25 := fun_mk (st := s_half_way) l25 c25 k25
  have b25 := F25.binds (ps := ["tree", "one", "other"]) fun _ _ _ _ _ _ us hl => match us, hl with | [_, _, _], _ => rfl
  have F26 := fun_mk (st := s_middle_point) l26 c26 k26
  have b26 := F26.binds (ps := ["tree"]) fun _ _ _ _ _ _ us hl => match us, hl with | [_], _ => rfl
  have F27 := fun_mk (st := s_leaves_of) l27 c27 k27
  have b27 := F27.binds (ps := ["tree"]) fun _ _ _ _ _ _ us hl => match us, hl with | [_], _ => rfl
  have F28 := fun_mk (st := s_part_of) l28 c28 k28
  have b28 := F28.binds (ps := ["tree", "places"]) fun _ _ _ _ _ _ us hl => match us, hl with | [_, _], _ => rfl
  have F29 := fun_mk (st := s_check_length) l29 c29 k29
  have b29 := F29.binds (ps := ["length"]) fun _ _ _ _ _ _ us hl => match us, hl with | [_], _ => rfl
  have F30 := fun_mk (st := s_number_of_tie) l30 c30 k30
  have b30 := F30.binds (ps := ["ties", "one", "other"]) fun _ _ _ _ _ _ us hl => match us, hl with | [_, _, _], _ => rfl
  have F31 := fun_mk (st := s_law_deed) l31 c31 k31
  have b31 := F31.binds (ps := ["deck", "kept", "tree"]) fun _ _ _ _ _ _ us hl => match us, hl with | [_, _, _], _ => rfl
  have F32 := fun_mk (st := s_law_as_due) l32 c32 k32
  have b32 := F32.binds (ps := ["deck", "kept", "tree"]) fun _ _ _ _ _ _ us hl => match us, hl with | [_, _, _], _ => rfl
  have F33 := fun_mk (st := s_law) l33 c33 k33
  have T0 : Txt mg := ⟨PySem.W.mg_none_of X G zlen, PySem.W.mg_none_of X G zsum, PySem.W.mg_none_of X G zrange, PySem.W.mg_none_of X G zint, PySem.W.mg_none_of X G zmax, PySem.W.mg_none_of X G zlist, PySem.W.mg_none_of X G ztuple⟩
  have TK : TxtK0 mg := ⟨PySem.W.mg_none_of X G ztuple, PySem.W.mg_none_of X G zenumerate⟩
  have TW : TxtW mg := ⟨PySem.W.mg_none_of X G ztuple⟩
  have TQ : TxtQ mg := ⟨PySem.W.mg_none_of X G zlen, PySem.W.mg_none_of X G zrange, PySem.W.mg_none_of X G ztuple, PySem.W.mg_none_of X G zenumerate⟩
  have TH : TxtH mg := ⟨PySem.W.mg_none_of X G zlen, PySem.W.mg_of X G zgcd⟩
  have TS : TxtS mg := ⟨PySem.W.mg_none_of X G zisinstance, PySem.W.mg_none_of X G ztuple, PySem.W.mg_none_of X G zstr, PySem.W.mg_none_of X G zint, PySem.W.mg_none_of X G zbool, PySem.W.mg_none_of X G zlen, PySem.W.mg_none_of X G zzip⟩
  have TL : TxtL mg := ⟨PySem.W.mg_none_of X G zrange, PySem.W.mg_none_of X G zlen⟩
  have TA : TxtA27 mg := ⟨PySem.W.mg_none_of X G zdict, PySem.W.mg_none_of X G zenumerate⟩
  have ECN : ExcC K aN := ⟨gaN, ggN, exN, hdN, haN, hno, hto, hmN⟩
  have KNJ := kit_own nNJ cJ yJ sNJ
  have KNF := kit_own nNF cF yF sNF
  have KNV := kit_ve sVN
  have XN : PySem.W.exmOne K (.ref aN) (.ref aF) = some true := exm_own bF cF yF sNF
  have FIN := fun_mk (st := s_np_init) lNI cNI kNI
  have bIN := FIN.binds (ps := ["self", "name"]) fun _ _ _ _ _ _ us hl => match us, hl with | [_, _], _ => rfl
  have NP : NpC K mg aN fNI aF := ⟨⟨⟨_, _, _, _, _, _, _, _, _, _, _, _, _, _, _, lN, rN⟩, saN, exN, yN, kN⟩, iN, tNI, ⟨gaN, ggN, exN, hdN⟩, ECN, noN, PySem.W.mg_of X G gNoPlace, PySem.W.mg_of X G gFarError, rdF, gaF, vF⟩
  have ECJ : ExcC K aJ := ⟨gaJ, ggJ, exJ, hdJ, haJ, hno, hto, hmJ⟩
  have KJN := kit_own nJN cN yN sJN
  have KJF := kit_own nJF cF yF sJF
  have KJV := kit_ve sVJ
  have XJ : PySem.W.exmOne K (.ref aJ) (.ref aF) = some true := exm_own bF cF yF sJF
  have NJ : NjC K mg aJ := ⟨xJ, PySem.W.mg_of X G gNoJoin, kJ, exJ, yJ⟩
  have KC : KtC K cKeptTree := ⟨⟨pgKeptTree, hdKeptTree, poKeptTree, saKeptTree⟩, nKeptTree_tree⟩
  have FKeptTreeinit := fun_mk (st := s_KeptTree_init) lKeptTreeinit cKeptTreeinit kKeptTreeinit
  have bKeptTreeinit := FKeptTreeinit.binds (ps := ["self", "tree"]) fun _ _ _ _ _ _ us hl => match us, hl with | [_, _], _ => rfl
  have FKeptTreeput_leaf := fun_mk (st := s_KeptTree_put_leaf) lKeptTreeput_leaf cKeptTreeput_leaf kKeptTreeput_leaf
  have bKeptTreeput_leaf := FKeptTreeput_leaf.binds (ps := ["self", "name", "place", "length"]) fun _ _ _ _ _ _ us hl => match us, hl with | [_, _, _, _], _ => rfl
  have FKeptTreetake_leaf := fun_mk (st := s_KeptTree_take_leaf) lKeptTreetake_leaf cKeptTreetake_leaf kKeptTreetake_leaf
  have bKeptTreetake_leaf := FKeptTreetake_leaf.binds (ps := ["self", "name"]) fun _ _ _ _ _ _ us hl => match us, hl with | [_, _], _ => rfl
  have FKeptTreelengthen := fun_mk (st := s_KeptTree_lengthen) lKeptTreelengthen cKeptTreelengthen kKeptTreelengthen
  have bKeptTreelengthen := FKeptTreelengthen.binds (ps := ["self", "one", "other", "length"]) fun _ _ _ _ _ _ us hl => match us, hl with | [_, _, _, _], _ => rfl
  have FKeptTreefarthest_now := fun_mk (st := s_KeptTree_farthest_now) lKeptTreefarthest_now cKeptTreefarthest_now kKeptTreefarthest_now
  have bKeptTreefarthest_now := FKeptTreefarthest_now.binds (ps := ["self"]) fun _ _ _ _ _ _ us hl => match us, hl with | [_], _ => rfl
  have FKeptTreemiddle_now := fun_mk (st := s_KeptTree_middle_now) lKeptTreemiddle_now cKeptTreemiddle_now kKeptTreemiddle_now
  have bKeptTreemiddle_now := FKeptTreemiddle_now.binds (ps := ["self"]) fun _ _ _ _ _ _ us hl => match us, hl with | [_], _ => rfl
  have C_law_mix : ∀ base : Heap, Cal l.prog w K mg base 1 "_law_mix" spMix := fun base => ⟨f1, _, _, ok_mix F1, PySem.W.mg_of X G a1, k1, b1⟩
  have C_law_deck : ∀ base : Heap, Cal l.prog w K mg base 1 "_law_deck" (spDeck K) := fun base => ⟨f2, _, _, ok_deck F2 T0, PySem.W.mg_of X G a2, k2, b2⟩
  have C_law_next : ∀ base : Heap, Cal l.prog w K mg base 2 "_law_next" spNext := fun base => ⟨f3, _, _, ok_next F3 T0 (C_law_mix base), PySem.W.mg_of X G a3, k3, b3⟩
  have C_law_name : ∀ base : Heap, Cal l.prog w K mg base 3 "_law_name" spName := fun base => ⟨f4, _, _, ok_name F4 T0 (C_law_next base), PySem.W.mg_of X G a4, k4, b4⟩
  have C_law_names : ∀ base : Heap, Cal l.prog w K mg base 4 "_law_names" spNames := fun base => ⟨f5, _, _, ok_names F5 T0 (C_law_next base) (C_law_name base), PySem.W.mg_of X G a5, k5, b5⟩
  have C_law_tree : ∀ base : Heap, Cal l.prog w K mg base 5 "_law_tree" (spTree K) := fun base => ⟨f6, _, _, ok_tree F6 T0 (C_law_next base) (C_law_names base), PySem.W.mg_of X G a6, k6, b6⟩
  have C_law_lengths : ∀ base : Heap, Cal l.prog w K mg base 2 "_law_lengths" spWaysTo := fun base => ⟨f7, _, _, ok_ways_to F7 TL, PySem.W.mg_of X G a7, k7, b7⟩
  have C_same0 : ∀ base : Heap, Cal l.prog w K mg base 1 "_law_same" (spSame 0) := fun base => ⟨f8, _, _, same_none, PySem.W.mg_of X G a8, k8, b8⟩
  have C_same1 : ∀ base : Heap, Cal l.prog w K mg base 2 "_law_same" (spSame 1) := fun base => ⟨f8, _, _, ok_same (by decide) F8 TS (C_same0 base), PySem.W.mg_of X G a8, k8, b8⟩
  have C_same2 : ∀ base : Heap, Cal l.prog w K mg base 3 "_law_same" (spSame 2) := fun base => ⟨f8, _, _, ok_same (by decide) F8 TS (C_same1 base), PySem.W.mg_of X G a8, k8, b8⟩
  have C_same3 : ∀ base : Heap, Cal l.prog w K mg base 4 "_law_same" (spSame 3) := fun base => ⟨f8, _, _, ok_same (by decide) F8 TS (C_same2 base), PySem.W.mg_of X G a8, k8, b8⟩
  have C_same4 : ∀ base : Heap, Cal l.prog w K mg base 5 "_law_same" (spSame 4) := fun base => ⟨f8, _, _, ok_same (by decide) F8 TS (C_same3 base), PySem.W.mg_of X G a8, k8, b8⟩
  have C_law_all : ∀ base : Heap, Cal l.prog w K mg base 3 "_law_all" spAll := fun base => ⟨f9, _, _, ok_all F9 TA (C_law_lengths base), PySem.W.mg_of X G a9, k9, b9⟩
  have C_law_farthest : ∀ base : Heap, Cal l.prog w K mg base 4 "_law_farthest" spLFar := fun base => ⟨f10, _, _, ok_lfar F10 TA (C_law_all base), PySem.W.mg_of X G a10, k10, b10⟩
  have C_law_fraction : ∀ base : Heap, Cal l.prog w K mg base 1 "_law_fraction" spLFrac := fun base => ⟨f11, _, _, ok_lfrac F11, PySem.W.mg_of X G a11, k11, b11⟩
  have C_law_middle : ∀ base : Heap, Cal l.prog w K mg base 5 "_law_middle" spLMid := fun base => ⟨f12, _, _, ok_lmid F12 (C_law_farthest base) (C_law_lengths base) (C_law_fraction base), PySem.W.mg_of X G a12, k12, b12⟩
  have C_law_leaves : ∀ base : Heap, Cal l.prog w K mg base 1 "_law_leaves" spLLeaves := fun base => ⟨f13, _, _, ok_lleaves F13, PySem.W.mg_of X G a13, k13, b13⟩
  have C_law_fresh : ∀ base : Heap, Cal l.prog w K mg base 4 "_law_fresh" spFresh := fun base => ⟨f14, _, _, ok_fresh F14 T0 (C_law_next base) (C_law_name base), PySem.W.mg_of X G a14, k14, b14⟩
  have C_law_length : ∀ base : Heap, Cal l.prog w K mg base 3 "_law_length" spLLen := fun base => ⟨f15, _, _, ok_llen F15 T0 (C_law_next base), PySem.W.mg_of X G a15, k15, b15⟩
  have C_ties_of_each : ∀ base : Heap, Cal l.prog w K mg base 1 "_ties_of_each" spTies := fun base => ⟨f16, _, _, ok_ties_of_each F16, PySem.W.mg_of X G a16, k16, b16⟩
  have Cwalk_from : ∀ base : Heap, Cal l.prog w K mg base 2 "walk_from" spWalk := fun base => ⟨f17, _, _, ok_walk_from F17 (C_ties_of_each base), PySem.W.mg_of X G a17, k17, b17⟩
  have Ccheck_places : ∀ base : Heap, Cal l.prog w K mg base 1 "check_places" spCheck := fun base => ⟨f18, _, _, ok_check_places F18, PySem.W.mg_of X G a18, k18, b18⟩
  have CXcheck_places : ∀ base : Heap, CalX l.prog w K mg base 3 "check_places" (spCheckX aN) := fun base => ⟨⟨f18, _, _, ok_check_placesX NP (ok_np_init NP FIN) bIN F18, PySem.W.mg_of X G a18, k18, b18⟩⟩
  have Clengths_from : ∀ base : Heap, Cal l.prog w K mg base 3 "lengths_from" spLens := fun base => ⟨f19, _, _, ok_lengths_from F19 TW (Ccheck_places base) (Cwalk_from base), PySem.W.mg_of X G a19, k19, b19⟩
  have Clength_between : ∀ base : Heap, Cal l.prog w K mg base 3 "length_between" spLen := fun base => ⟨f20, _, _, ok_length_between F20 (Ccheck_places base) (Cwalk_from base), PySem.W.mg_of X G a20, k20, b20⟩
  have Cway_between : ∀ base : Heap, Cal l.prog w K mg base 3 "way_between" spWay := fun base => ⟨f21, _, _, ok_way_between F21 TW (Ccheck_places base) (Cwalk_from base), PySem.W.mg_of X G a21, k21, b21⟩
  have Cpairs_in_order : ∀ base : Heap, Cal l.prog w K mg base 4 "pairs_in_order" spPio := fun base => ⟨f22, _, _, ok_pio F22 TQ (Clengths_from base), PySem.W.mg_of X G a22, k22, b22⟩
  have Cfarthest : ∀ base : Heap, Cal l.prog w K mg base 5 "farthest" spFarthest := fun base => ⟨f23, _, _, ok_farthest F23 (Cpairs_in_order base), PySem.W.mg_of X G a23, k23, b23⟩
  have C_fraction : ∀ base : Heap, Cal l.prog w K mg base 1 "_fraction" spFrac := fun base => ⟨f24, _, _, ok_fraction F24 TH, PySem.W.mg_of X G a24, k24, b24⟩
  have C_half_way : ∀ base : Heap, Cal l.prog w K mg base 4 "_half_way" spHalfWay := fun base => ⟨f25, _, _, ok_half_way F25 TH (Cway_between base) (Clength_between base) (C_fraction base), PySem.W.mg_of X G a25, k25, b25⟩
  have Cmiddle_point : ∀ base : Heap, Cal l.prog w K mg base 6 "middle_point" spMp := fun base => ⟨f26, _, _, ok_mp F26 (Cfarthest base) (C_half_way base) (C_fraction base), PySem.W.mg_of X G a26, k26, b26⟩
  have Cleaves_of : ∀ base : Heap, Cal l.prog w K mg base 1 "leaves_of" spLeaves := fun base => ⟨f27, _, _, ok_leaves_of F27 TK, PySem.W.mg_of X G a27, k27, b27⟩
  have Cpart_of : ∀ base : Heap, Cal l.prog w K mg base 1 "part_of" spPart := fun base => ⟨f28, _, _, ok_part_of F28 TK, PySem.W.mg_of X G a28, k28, b28⟩
  have C_check_length : ∀ base : Heap, CalX l.prog w K mg base 1 "_check_length" (spCkLen aJ) := fun base => ⟨⟨f29, _, _, ok_check_length NJ F29, PySem.W.mg_of X G a29, k29, b29⟩⟩
  have C_number_of_tie : ∀ base : Heap, Cal l.prog w K mg base 3 "_number_of_tie" spNum := fun base => ⟨f30, _, _, ok_number F30 TK, PySem.W.mg_of X G a30, k30, b30⟩
  have Mput_leaf : ∀ base : Heap, CalM l.prog w K mg base 4 cKeptTree "put_leaf" (spPut cKeptTree aJ aN) := fun base => ⟨_, _, _, ok_put KC FKeptTreeput_leaf NJ (CXcheck_places base) (C_check_length base), KC.cl, ⟨aKeptTreeput_leaf, iKeptTreeput_leaf, kKeptTreeput_leaf⟩, bKeptTreeput_leaf⟩
  have Mtake_leaf : ∀ base : Heap, CalM l.prog w K mg base 4 cKeptTree "take_leaf" (spTake cKeptTree aJ aN) := fun base => ⟨_, _, _, ok_take KC FKeptTreetake_leaf NJ (CXcheck_places base) (Cleaves_of base) (Cpart_of base), KC.cl, ⟨aKeptTreetake_leaf, iKeptTreetake_leaf, kKeptTreetake_leaf⟩, bKeptTreetake_leaf⟩
  have Mlengthen : ∀ base : Heap, CalM l.prog w K mg base 4 cKeptTree "lengthen" (spLonger cKeptTree aJ aN) := fun base => ⟨_, _, _, ok_longer KC FKeptTreelengthen NJ (CXcheck_places base) (C_number_of_tie base) (C_check_length base), KC.cl, ⟨aKeptTreelengthen, iKeptTreelengthen, kKeptTreelengthen⟩, bKeptTreelengthen⟩
  have MKeptTree : ∀ base : Heap, CalK l.prog w K mg base 1 cKeptTree "KeptTree" (spKInit cKeptTree) := fun base => ⟨_, _, _, ok_kinit KC FKeptTreeinit, ⟨mkKeptTree, aKeptTreeinit, iKeptTreeinit, kcKeptTree⟩, PySem.W.mg_of X G gKeptTree, bKeptTreeinit⟩
  have Mfarthest_now : ∀ base : Heap, CalM l.prog w K mg base 6 cKeptTree "farthest_now" (spFarNow cKeptTree) := fun base => ⟨_, _, _, ok_far_now KC FKeptTreefarthest_now (Cfarthest base), KC.cl, ⟨aKeptTreefarthest_now, iKeptTreefarthest_now, kKeptTreefarthest_now⟩, bKeptTreefarthest_now⟩
  have Mmiddle_now : ∀ base : Heap, CalM l.prog w K mg base 7 cKeptTree "middle_now" (spMidNow cKeptTree) := fun base => ⟨_, _, _, ok_mid_now KC FKeptTreemiddle_now (Cmiddle_point base), KC.cl, ⟨aKeptTreemiddle_now, iKeptTreemiddle_now, kKeptTreemiddle_now⟩, bKeptTreemiddle_now⟩
  have C_law_deed : ∀ base : Heap, Cal l.prog w K mg base 5 "_law_deed" (spDeed cKeptTree) := fun base => ⟨f31, _, _, ok_deed F31 T0 (C_law_next base) (C_law_fresh base) (C_law_leaves base) (C_law_length base) (Mput_leaf base) (Mtake_leaf base) (Mlengthen base), PySem.W.mg_of X G a31, k31, b31⟩
  have C_law_as_due : ∀ base : Heap, Cal l.prog w K mg base 8 "_law_as_due" (spDue cKeptTree) := fun base => ⟨f32, _, _, ok_due F32 (C_law_next base) (C_same4 base) (C_law_farthest base) (C_law_middle base) (Mfarthest_now base) (Mmiddle_now base), PySem.W.mg_of X G a32, k32, b32⟩
  exact ⟨_, fun s v => .of_eq rfl, fun base _ _ => ok_law F33 T0 (C_law_deck base) (C_law_next base) (C_law_tree base) (C_law_deed base) (C_law_as_due base) (MKeptTree base)⟩
end Far
open PySem PySem.W PyProof.Rows in
set_option maxRecDepth 100000 in
set_option maxHeartbeats 0 in
theorem PySem.Challenge.cw_farplaces_k27_kept_farthest_and_middle_holds : PySem.Challenge.rw_farplaces_k27_kept_farthest_and_middle.Holds := by
  w_on; o_law; k_head; (case hw => w_witness2)
  k_fill
  refine L2.walk_of (l := PySem.Challenge.rw_farplaces_k27_kept_farthest_and_middle) (n := 63) (k := 9) (x := "script") (CX := fun _ => L2.CX0) (sp := fun w => Far.spLaw _) rfl (by decide) rfl ⟨rfl, by decide, by decide⟩ (fun w h Y => PySem.W.kIn_of Y) ?F (fun _ _ a ns hl _ hS => ⟨a, ns, rfl, hS, hl, fun _ => rfl⟩) (fun _ _ _ _ _ h => h)
  case F =>
    intro w mg fa h KX G hmg
    refine' Far.all_mk KX G hmg ?a1 ?l1 ?c1 ?k1 ?a2 ?l2 ?c2 ?k2 ?a3 ?l3 ?c3 ?k3 ?a4 ?l4 ?c4 ?k4 ?a5 ?l5 ?c5 ?k5 ?a6 ?l6 ?c6 ?k6 ?a7 ?l7 ?c7 ?k7 ?a8 ?l8 ?c8 ?k8 ?a9 ?l9 ?c9 ?k9 ?a10 ?l10 ?c10 ?k10 ?a11 ?l11 ?c11 ?k11 ?a12 ?l12 ?c12 ?k12 ?a13 ?l13 ?c13 ?k13 ?a14 ?l14 ?c14 ?k14 ?a15 ?l15 ?c15 ?k15 ?a16 ?l16 ?c16 ?k16 ?a17 ?l17 ?c17 ?k17 ?a18 ?l18 ?c18 ?k18 ?a19 ?l19 ?c19 ?k19 ?a20 ?l20 ?c20 ?k20 ?a21 ?l21 ?c21 ?k21 ?a22 ?l22 ?c22 ?k22 ?a23 ?l23 ?c23 ?k23 ?a24 ?l24 ?c24 ?k24 ?a25 ?l25 ?c25 ?k25 ?a26 ?l26 ?c26 ?k26 ?a27 ?l27 ?c27 ?k27 ?a28 ?l28 ?c28 ?k28 ?a29 ?l29 ?c29 ?k29 ?a30 ?l30 ?c30 ?k30 ?a31 ?l31 ?c31 ?k31 ?a32 ?l32 ?c32 ?k32 ?a33 ?l33 ?c33 ?k33 ?zbool ?zdict ?zenumerate ?zint ?zisinstance ?zlen ?zlist ?zmax ?zrange ?zstr ?zsum ?ztuple ?zzip ?zgcd ?gNoPlace ?cN ?yN ?gNoJoin ?cJ ?yJ ?gFarError ?cF ?yF ?bF ?hno ?hto ?exN ?sVN ?gaN ?ggN ?hdN ?haN ?hmN ?kN ?sNJ ?nNJ ?sNF ?nNF ?lN ?rN ?saN ?iN ?lNI ?cNI ?kNI ?tNI ?noN ?rdF ?gaF ?vF ?exJ ?sVJ ?gaJ ?ggJ ?hdJ ?haJ ?hmJ ?kJ ?sJN ?nJN ?sJF ?nJF ?xJ ?gKeptTree ?pgKeptTree ?hdKeptTree ?poKeptTree ?saKeptTree ?mkKeptTree ?kcKeptTree ?nKeptTree_tree ?aKeptTreeinit ?iKeptTreeinit ?lKeptTreeinit ?cKeptTreeinit ?kKeptTreeinit ?aKeptTreeput_leaf ?iKeptTreeput_leaf ?lKeptTreeput_leaf ?cKeptTreeput_leaf ?kKeptTreeput_leaf ?aKeptTreetake_leaf ?iKeptTreetake_leaf ?lKeptTreetake_leaf ?cKeptTreetake_leaf ?kKeptTreetake_leaf ?aKeptTreelengthen ?iKeptTreelengthen ?lKeptTreelengthen ?cKeptTreelengthen ?kKeptTreelengthen ?aKeptTreefarthest_now ?iKeptTreefarthest_now ?lKeptTreefarthest_now ?cKeptTreefarthest_now ?kKeptTreefarthest_now ?aKeptTreemiddle_now ?iKeptTreemiddle_now ?lKeptTreemiddle_now ?cKeptTreemiddle_now ?kKeptTreemiddle_now
    (case a1 => k_is); (case l1 => k_is); (case c1 => k_is); (case k1 => k_is); (case a2 => k_is); (case l2 => k_is); (case c2 => k_is); (case k2 => k_is); (case a3 => k_is); (case l3 => k_is); (case c3 => k_is); (case k3 => k_is); (case a4 => k_is); (case l4 => k_is); (case c4 => k_is); (case k4 => k_is); (case a5 => k_is); (case l5 => k_is); (case c5 => k_is); (case k5 => k_is); (case a6 => k_is); (case l6 => k_is); (case c6 => k_is); (case k6 => k_is); (case a7 => k_is); (case l7 => k_is); (case c7 => k_is); (case k7 => k_is); (case a8 => k_is); (case l8 => k_is); (case c8 => k_is); (case k8 => k_is); (case a9 => k_is); (case l9 => k_is); (case c9 => k_is); (case k9 => k_is); (case a10 => k_is); (case l10 => k_is); (case c10 => k_is); (case k10 => k_is); (case a11 => k_is); (case l11 => k_is); (case c11 => k_is); (case k11 => k_is); (case a12 => k_is); (case l12 => k_is); (case c12 => k_is); (case k12 => k_is); (case a13 => k_is); (case l13 => k_is); (case c13 => k_is); (case k13 => k_is); (case a14 => k_is); (case l14 => k_is); (case c14 => k_is); (case k14 => k_is); (case a15 => k_is); (case l15 => k_is); (case c15 => k_is); (case k15 => k_is); (case a16 => k_is); (case l16 => k_is); (case c16 => k_is); (case k16 => k_is); (case a17 => k_is); (case l17 => k_is); (case c17 => k_is); (case k17 => k_is); (case a18 => k_is); (case l18 => k_is); (case c18 => k_is); (case k18 => k_is); (case a19 => k_is); (case l19 => k_is); (case c19 => k_is); (case k19 => k_is); (case a20 => k_is); (case l20 => k_is); (case c20 => k_is); (case k20 => k_is); (case a21 => k_is); (case l21 => k_is); (case c21 => k_is); (case k21 => k_is); (case a22 => k_is); (case l22 => k_is); (case c22 => k_is); (case k22 => k_is); (case a23 => k_is); (case l23 => k_is); (case c23 => k_is); (case k23 => k_is); (case a24 => k_is); (case l24 => k_is); (case c24 => k_is); (case k24 => k_is); (case a25 => k_is); (case l25 => k_is); (case c25 => k_is); (case k25 => k_is); (case a26 => k_is); (case l26 => k_is); (case c26 => k_is); (case k26 => k_is); (case a27 => k_is); (case l27 => k_is); (case c27 => k_is); (case k27 => k_is); (case a28 => k_is); (case l28 => k_is); (case c28 => k_is); (case k28 => k_is); (case a29 => k_is); (case l29 => k_is); (case c29 => k_is); (case k29 => k_is); (case a30 => k_is); (case l30 => k_is); (case c30 => k_is); (case k30 => k_is); (case a31 => k_is); (case l31 => k_is); (case c31 => k_is); (case k31 => k_is); (case a32 => k_is); (case l32 => k_is); (case c32 => k_is); (case k32 => k_is); (case a33 => k_is); (case l33 => k_is); (case c33 => k_is); (case k33 => k_is); (case zbool => k_is); (case zdict => k_is); (case zenumerate => k_is); (case zint => k_is); (case zisinstance => k_is); (case zlen => k_is); (case zlist => k_is); (case zmax => k_is); (case zrange => k_is); (case zstr => k_is); (case zsum => k_is); (case ztuple => k_is); (case zzip => k_is); (case zgcd => k_is); (case gNoPlace => k_is); (case cN => k_is); (case yN => k_is); (case gNoJoin => k_is); (case cJ => k_is); (case yJ => k_is); (case gFarError => k_is); (case cF => k_is); (case yF => k_is); (case bF => k_is); (case hno => k_is); (case hto => k_is); (case exN => k_is); (case sVN => k_is); (case gaN => k_is); (case ggN => k_is); (case hdN => k_is); (case haN => k_is); (case hmN => k_is); (case kN => k_is); (case sNJ => k_is); (case nNJ => rfl); (case sNF => k_is); (case nNF => rfl); (case lN => k_is); (case rN => rfl); (case saN => k_is); (case iN => k_is); (case lNI => k_is); (case cNI => k_is); (case kNI => k_is); (case tNI => k_is); (case noN => k_is); (case rdF => k_is); (case gaF => k_is); (case vF => k_is); (case exJ => k_is); (case sVJ => k_is); (case gaJ => k_is); (case ggJ => k_is); (case hdJ => k_is); (case haJ => k_is); (case hmJ => k_is); (case kJ => k_is); (case sJN => k_is); (case nJN => rfl); (case sJF => k_is); (case nJF => rfl); (case xJ => k_exc); (case gKeptTree => k_is); (case pgKeptTree => k_is); (case hdKeptTree => k_is); (case poKeptTree => k_is); (case saKeptTree => k_is); (case mkKeptTree => k_is); (case kcKeptTree => k_is); (case nKeptTree_tree => k_is); (case aKeptTreeinit => k_is); (case iKeptTreeinit => k_is); (case lKeptTreeinit => k_is); (case cKeptTreeinit => k_is); (case kKeptTreeinit => k_is); (case aKeptTreeput_leaf => k_is); (case iKeptTreeput_leaf => k_is); (case lKeptTreeput_leaf => k_is); (case cKeptTreeput_leaf => k_is); (case kKeptTreeput_leaf => k_is); (case aKeptTreetake_leaf => k_is); (case iKeptTreetake_leaf => k_is); (case lKeptTreetake_leaf => k_is); (case cKeptTreetake_leaf => k_is); (case kKeptTreetake_leaf => k_is); (case aKeptTreelengthen => k_is); (case iKeptTreelengthen => k_is); (case lKeptTreelengthen => k_is); (case cKeptTreelengthen => k_is); (case kKeptTreelengthen => k_is); (case aKeptTreefarthest_now => k_is); (case iKeptTreefarthest_now => k_is); (case lKeptTreefarthest_now => k_is); (case cKeptTreefarthest_now => k_is); (case kKeptTreefarthest_now => k_is); (case aKeptTreemiddle_now => k_is); (case iKeptTreemiddle_now => k_is); (case lKeptTreemiddle_now => k_is); (case cKeptTreemiddle_now => k_is); (case kKeptTreemiddle_now => k_is)

