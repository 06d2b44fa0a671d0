import PyProof.Rows.All
import Wide.All
import OpenK.AllK
import Wide.FinOn
import HandS.ForMost
import HandS.Wide
import HandS.Codes
import HandS.Conv
import HandS.TupAny
import HandS.Style
import HandS.IsInst
import HandS.FStr
import HandS.DictComp
import HandS.NoneIn
import HandS.Strs
import KE.GoesEnumKw
import HandS.Zip
import HandS.Exc
import HandS.ExcInit
import HandS.ClsMeth
import HandS.ExcValue
import HandS.TryOnly
import HandS.ExcIs
import HandS.ExcField
import HandS.WordsExc
import KE.GoesMore
import KE.GoesZip
import KE.GoesEnum
import KE.KDictZip
import HandS.OwnIter
import PySem.Challenge.RW_farplaces_k03_whole_trees
set_option Elab.async false
set_option linter.all false
set_option maxRecDepth 100000
set_option maxHeartbeats 8000000
namespace Far
open PySem PySem.Spec PyProof.Rows L2
open C8 (pss_cut tCut)
def topS (i : Nat) : Stmt := PySem.Challenge.pw_farplaces_k03_whole_trees.main.body.getD i (.Pass ⟨0, 0, 0, 0⟩)

theorem hd_of {A : Around} {k : Nat} (hr : Room k A) (h : 1 ≤ k) : A.units + 64 < cLine := by
  have := hr.units
  omega

/-- a def of the module that may be called by its name -/
structure Cal (P : Program) (w : World) (K : PySem.W.Frag) (mg : Str → Option Value) (base : Heap) (k : Nat) (x : Str) (sp : Sp) : Prop where
  ex : ∃ (f : Addr) (fd : FuncData) (ps : List Str), FnOk P w K mg base CX0 k f fd ps sp ∧ mg x = some (.ref f) ∧ PySem.W.keepIn K (.ref f) = true ∧ Binds K fd ps []
theorem pe_c {X : Cx} {k j : Nat} {x : Str} {sp : Sp} {p pos : Pos} {e : Expr} {es : List Expr} {t : TA} (c : Cal X.prog X.w X.K X.mg X.base k x sp) (hr : Room j X.A) (hk : k ≤ j) (hg : Gl X x) (ha : PA X (e :: es) t)
    (hdb : (x == ("__debug__" : Str)) = false := by decide) (he : starEach (e :: es) X.env = (false, eval e X.env) :: starEach es X.env := by rfl) (hpl : (backTo pos (starEach es X.env)).any (·.1) = false := by rfl) :
    PE X (.Call (.Name x p) (e :: es) [] pos) (tCall sp [] E0 t) := by
  obtain ⟨f, fd, ps, F, hm, kp, b⟩ := c.ex
  exact pe_call F (hr.mono hk) hg hm kp b .nil pass0 ha hdb he hpl

theorem bt_len : bootBuiltins ("len" : Str) = some (.builtin "len") := by decide +kernel
theorem bt_sum : bootBuiltins ("sum" : Str) = some (.builtin "sum") := by decide +kernel
theorem bt_max : bootBuiltins ("max" : Str) = some (.builtin "max") := by decide +kernel
theorem bt_all : bootBuiltins ("all" : Str) = some (.builtin "all") := by decide +kernel
theorem bt_isinstance : bootBuiltins ("isinstance" : Str) = some (.builtin "isinstance") := by decide +kernel
theorem bt_int : bootBuiltins ("int" : Str) = some (.type "int") := by decide +kernel
theorem bt_str : bootBuiltins ("str" : Str) = some (.type "str") := by decide +kernel
theorem bt_tuple : bootBuiltins ("tuple" : Str) = some (.type "tuple") := by decide +kernel
theorem bt_bool : bootBuiltins ("bool" : Str) = some (.type "bool") := by decide +kernel
theorem bt_list : bootBuiltins ("list" : Str) = some (.type "list") := by decide +kernel
/-- rules with the written part named, for use within a comprehension -/
def rLenV (K : PySem.W.Frag) : List V → Hp → VK → Prop := fun xs H Q => ∃ x n, xs = [x] ∧ LenV K x H n ∧ Q (.int n) H
theorem lenK {X : Cx} {K : PySem.W.Frag} (e : X.K = K := by rfl) : CallR X (.builtin "len") (rLenV K) := by
  subst e
  exact call_len
theorem ixl {X : Cx} {K : PySem.W.Frag} (e : X.K = K := by rfl) : IxR X (rIxL K) := by
  subst e
  exact ix_list
theorem ixt {X : Cx} {K : PySem.W.Frag} (e : X.K = K := by rfl) : IxR X (rIxT K) := by
  subst e
  exact ix_tup
/-- what the module's names hold that are built-ins, and its constants -/
structure Txt (mg : Str → Option Value) : Prop where
  len : mg "len" = none
  sum : mg "sum" = none
  range : mg "range" = none
  int : mg "int" = none
  max : mg "max" = none
  list : mg "list" = none
  tuple : mg "tuple" = none

/-- all that stood stands as it was, but for the one object -/
def SmX (d : Addr) (H H' : Hp) : Prop := ∀ b o, b ≠ d → H b = some o → H' b = some o
theorem SmX.refl {d : Addr} (H : Hp) : SmX d H H := fun _ _ _ h => h
theorem SmX.trans {d : Addr} {H H1 H2 : Hp} (a : SmX d H H1) (b : SmX d H1 H2) : SmX d H H2 := fun x o n h => b x o n (a x o n h)
theorem SmX.new {d : Addr} {H H1 : Hp} {p : Addr} {o : HO} (a : SmX d H H1) (n : H1 p = none) : SmX d H (upd H1 p o) := fun x u nx h => by
  rw [upd_ne (ne_of_none (a x u nx h) n)]
  exact a x u nx h
theorem SmX.mut {d : Addr} {H H1 : Hp} {o : HO} (a : SmX d H H1) : SmX d H (upd H1 d o) := fun x u nx h => by
  rw [upd_ne nx]
  exact a x u nx h
/-- an object that the first heap does not know may change -/
theorem SmX.put {d : Addr} {H H1 : Hp} {p : Addr} {o : HO} (a : SmX d H H1) (n : H p = none) : SmX d H (upd H1 p o) := fun x u nx h => by
  rw [upd_ne (ne_of_none h n)]
  exact a x u nx h

/-- the deck at d, its cells at c: at most n were mixed -/
def DeckAt (H : Hp) (d c : Addr) (n : Nat) : Prop := ∃ (cs : List Int) (i l m z : Int), H d = some (.lst [.ref c, .int i, .int l, .int m, .int z]) ∧ H c = some (.lst (cs.map V.int)) ∧ c ≠ d ∧ cs.length ≤ 63 ∧ 0 ≤ i ∧ i ≤ 63 ∧ 0 ≤ l ∧ 0 ≤ m ∧ m ≤ n
theorem DeckAt.new {H : Hp} {d c p : Addr} {o : HO} {n : Nat} (h : DeckAt H d c n) (np : H p = none) : DeckAt (upd H p o) d c n := by
  obtain ⟨cs, i, l, m, z, h1, h2, h3⟩ := h
  exact ⟨cs, i, l, m, z, by rw [upd_ne (ne_of_none h1 np)]; exact h1, by rw [upd_ne (ne_of_none h2 np)]; exact h2, h3⟩
theorem DeckAt.put {H : Hp} {d c p : Addr} {o : HO} {n : Nat} (h : DeckAt H d c n) (nd : p ≠ d) (nc : p ≠ c) : DeckAt (upd H p o) d c n := by
  obtain ⟨cs, i, l, m, z, h1, h2, h3⟩ := h
  exact ⟨cs, i, l, m, z, by rw [upd_ne nd.symm]; exact h1, by rw [upd_ne nc.symm]; exact h2, h3⟩
theorem DeckAt.nd {H : Hp} {d c p : Addr} {n : Nat} (h : DeckAt H d c n) (np : H p = none) : p ≠ d := fun e => by
  obtain ⟨_, _, _, _, _, h1, _⟩ := h
  rw [e, h1] at np
  cases np
theorem DeckAt.nc {H : Hp} {d c p : Addr} {n : Nat} (h : DeckAt H d c n) (np : H p = none) : p ≠ c := fun e => by
  obtain ⟨_, _, _, _, _, _, h2, _⟩ := h
  rw [e, h2] at np
  cases np
theorem DeckAt.mono {H : Hp} {d c : Addr} {n m : Nat} (h : DeckAt H d c n) (le : n ≤ m) : DeckAt H d c m := by
  obtain ⟨cs, i, l, m', z, h1, h2, h3, h4, h5, h6, h7, h8, h9⟩ := h
  exact ⟨cs, i, l, m', z, h1, h2, h3, h4, h5, h6, h7, h8, by omega⟩
theorem SmX.free {d : Addr} {H H' : Hp} {p : Addr} (a : SmX d H H') (n : H' p = none) (nd : p ≠ d) : H p = none := by
  cases q : H p with
  | none => rfl
  | some o =>
    rw [a p o nd q] at n
    cases n

abbrev s_law_mix : Stmt := topS 15
abbrev N_law_mix : List Str := ["cell", "k", "number"]
theorem sc_law_mix : FnScope N_law_mix ["cell", "k"] (defScope s_law_mix) := ⟨rfl, rfl, rfl, by decide +kernel, rfl, by decide +kernel, by decide +kernel⟩
section
variable {P : Program} {w : World} {K : PySem.W.Frag} {mg : Str → Option Value} {base : Heap}
def spMix : Sp := fun vs H Q _ => ∃ c k : Int, vs = [.int c, .int k] ∧ 0 ≤ k ∧ k < 1000000000000 ∧ ∀ r : Int, 0 ≤ r → Q (.int r) H
theorem ok_mix {f : Addr} {fd : FuncData} (F : Fun K "_law_mix" "_law_mix" s_law_mix f fd) : FnOk P w K mg base CX0 1 f fd ["cell", "k"] spMix := by
  refine F.ok sc_law_mix (fun vs H Q E h => ?_) (fun cdv A outer s H vs Q E hr h => ?_)
  · obtain ⟨c, k, rfl, _⟩ := h
    rfl
  · obtain ⟨c, k, rfl, k0, k1, q⟩ := h
    refine ⟨_, (pss_cons (ps_set (i := 2) sc_law_mix.nd rfl (.inl rfl) (pe_op op_add (pe_op op_mod (pv 0) pe_int) (pe_op op_mul (pe_op op_mul pe_int (pv 1)) (pv 1))))
      (pss_cons (ps_set (i := 2) sc_law_mix.nd rfl (.inl rfl) (pe_op op_mod (pe_op op_add (pv 2) (pe_op op_mul pe_int (pv 1))) pe_int))
      (pss_cons (ps_set (i := 2) sc_law_mix.nd rfl (.inl rfl) (pe_op op_mod (pe_op op_mul (pv 2) (pv 2)) pe_int))
      (pss_one (ps_ret (pe_op op_fdiv (pe_op op_mod (pe_op op_mul (pv 2) (pe_op op_add (pv 2) pe_int)) pe_int) pe_int)))))), ?_⟩
    refine ⟨_, rfl, _, _, rfl, rfl, (by show (0 : Int) < _; decide), _, rfl, _, _, rfl, rfl, .inl (by decide), _, rfl, _, _, rfl, rfl, .inr ⟨by omega, by omega⟩, _, _, rfl, rfl, ?_⟩
    refine ⟨_, rfl, _, rfl, _, _, rfl, rfl, .inl (by decide), _, _, rfl, rfl, _, _, rfl, rfl, (by show (0 : Int) < _; decide), ?_⟩
    generalize hm : (c % 2147483629 + 1000003 * k * k + 7919 * k) % 2147483629 = m
    have m0 : 0 ≤ m := by omega
    have m1 : m < 2147483629 := by omega
    refine ⟨_, rfl, _, rfl, _, _, rfl, rfl, .inl ⟨by omega, by omega⟩, _, _, rfl, rfl, (by show (0 : Int) < _; decide), ?_⟩
    generalize hn : m * m % 2147483587 = n
    have n0 : 0 ≤ n := by omega
    have n1 : n < 2147483587 := by omega
    refine ⟨_, rfl, _, rfl, _, _, rfl, rfl, _, _, rfl, rfl, .inl ⟨by omega, by omega⟩, _, _, rfl, rfl, (by show (0 : Int) < _; decide), _, _, rfl, rfl, ⟨by decide, by decide⟩, ?_⟩
    exact q _ (by omega)

abbrev s_law_next : Stmt := topS 17
abbrev N_law_next : List Str := ["deck", "many", "cell", "found"]
theorem sc_law_next : FnScope N_law_next ["deck", "many"] (defScope s_law_next) := ⟨rfl, rfl, rfl, by decide +kernel, rfl, by decide +kernel, by decide +kernel⟩
/-- a number from 0 on below many; the deck stands a step further; what else stood stands -/
def spNext : Sp := fun vs H Q _ => ∃ (d c : Addr) (n : Nat) (many : Int), vs = [.ref d, .int many] ∧ DeckAt H d c n ∧ n < 100000 ∧ 0 < many ∧ many < 2 ^ 60 ∧ ∀ (H' : Hp) (r : Int), 0 ≤ r → r < many → SmX d H H' → DeckAt H' d c (n + 1) → Q (.int r) H'
theorem ok_next {f : Addr} {fd : FuncData} (F : Fun K "_law_next" "_law_next" s_law_next f fd) (T : Txt mg) (C_law_mix : Cal P w K mg base 1 "_law_mix" spMix) : FnOk P w K mg base CX0 2 f fd ["deck", "many"] spNext := by
  refine F.ok sc_law_next (fun vs H Q E h => ?_) (fun cdv A outer s H vs Q E hr h => ?_)
  · obtain ⟨d, c, n, many, rfl, _⟩ := h
    rfl
  · obtain ⟨d, c, n, many, rfl, hD, hn, hm0, hm1, q⟩ := h
    refine ⟨_, (pss_cut (ps_if (PW.pt (pw_and (pt_cmpR op_eq (pe_ix ix_list (pv 0) pe_int (fun _ _ => rfl)) pe_int (nomark _)) (pw_and1 (pt_cmpR op_lt (pe_ix ix_list (pv 0) pe_int (fun _ _ => rfl)) (pe_callB call_len_seq (by rfl) T.len bt_len (pa_cons (pe_ix ix_list (pv 0) pe_int (fun _ _ => rfl)) pa_nil)) (nomark _)))))
        (pss_cons (ps_set (i := 2) sc_law_next.nd rfl (.inl rfl) (pe_ix ix_list (pe_ix ix_list (pv 0) pe_int (fun _ _ => rfl)) (pe_ix ix_list (pv 0) pe_int (fun _ _ => rfl)) (fun _ _ => rfl)))
        (pss_cons (ps_asg (pe_op op_add (pe_ix ix_list (pv 0) pe_int (fun _ _ => rfl)) pe_int) (pg_sub (pv 0) pe_int set_list))
        (pss_cons (ps_if (pt_cmpR op_lt (pv 2) (pe_op op_pow pe_int pe_int) (nomark _))
          (pss_one (ps_ret (pe_op op_mod (pe_c C_law_mix hr (by decide) rfl (pa_cons (pv 2) (pa_cons (pe_ix ix_list (pv 0) pe_int (fun _ _ => rfl)) pa_nil))) (pv 1))))
          pss_nil)
        (pss_one (ps_asg (pv 2) (pg_sub (pv 0) pe_int set_list))))))
        pss_nil)
      (pss_cut (ps_if (pt_cmpR op_gt (pe_ix ix_list (pv 0) pe_int (fun _ _ => rfl)) pe_int (nomark _))
        (pss_cons (ps_set (i := 3) sc_law_next.nd rfl (.inl rfl) (pe_op op_mod (pe_ix ix_list (pv 0) pe_int (fun _ _ => rfl)) (pv 1)))
        (pss_cons (ps_asg (pe_op op_fdivW (pe_ix ix_list (pv 0) pe_int (fun _ _ => rfl)) (pv 1)) (pg_sub (pv 0) pe_int set_list))
        (pss_one (ps_ret (pv 3)))))
        pss_nil)
      (pss_cons (ps_asg (pe_op op_add (pe_ix ix_list (pv 0) pe_int (fun _ _ => rfl)) pe_int) (pg_sub (pv 0) pe_int set_list))
      (pss_one (ps_ret (pe_op op_mod (pe_c C_law_mix hr (by decide) rfl (pa_cons (pe_ix ix_list (pv 0) pe_int (fun _ _ => rfl)) (pa_cons (pe_op op_add (pe_ix ix_list (pv 0) pe_int (fun _ _ => rfl)) pe_int) pa_nil))) (pv 1))))))), ?_⟩
    refine ⟨fun σ' H' => (∃ x y, σ' = [some (.ref d), some (.int many), x, y]) ∧ SmX d H H' ∧ DeckAt H' d c n, ?_, fun σ' H1 hM => ?_⟩
    · obtain ⟨cs, i, l, m, z, h1, h2, ncd, len, i0, i63, l0, m0, mn⟩ := id hD
      refine ⟨_, rfl, d, _, 2, _, rfl, rfl, SqL.of h1, rfl, rfl, _, rfl, ?_⟩
      refine ite2 (fun e => ?_) (fun e => ?_)
      · refine ⟨_, rfl, d, _, 1, _, rfl, rfl, SqL.of h1, rfl, _, rfl, d, _, 0, _, rfl, rfl, SqL.of h1, rfl, c, _, rfl, .inl (SqL.of h2), _, _, rfl, rfl, _, rfl, ?_⟩
        refine ite2 (fun e2 => ?_) (fun e2 => ?_)
        · have lt : i < cs.length := by simpa using of_decide_eq_true e2
          have gi : (cs.map V.int)[i.toNat]? = some (.int (cs[i.toNat]'(by omega))) := by
            rw [List.getElem?_map, List.getElem?_eq_getElem (by omega)]
            rfl
          have ei : i = ((i.toNat : Nat) : Int) := by omega
          refine ⟨_, rfl, d, _, 0, _, rfl, rfl, SqL.of h1, rfl, _, rfl, d, _, 1, _, rfl, rfl, SqL.of h1, rfl, c, _, i, _, rfl, rfl, SqL.of h2, at_of ei gi, ?_⟩
          generalize cs[i.toNat]'(by omega) = cell
          refine ⟨_, rfl, d, _, 1, _, rfl, rfl, SqL.of h1, rfl, i, 1, rfl, rfl, ?_⟩
          refine ⟨_, rfl, d, _, 1, 1, rfl, rfl, h1, rfl, ?_⟩
          have S1 : SmX d H (upd H d (.lst [.ref c, .int (i + 1), .int l, .int m, .int z])) := (SmX.refl H).mut
          have h1' : (upd H d (.lst [.ref c, .int (i + 1), .int l, .int m, .int z])) d = some (.lst [.ref c, .int (i + 1), .int l, .int m, .int z]) := upd_same
          have h2' : (upd H d (.lst [.ref c, .int (i + 1), .int l, .int m, .int z])) c = some (.lst (cs.map V.int)) := by
            rw [upd_ne ncd]
            exact h2
          refine ⟨_, rfl, _, _, rfl, rfl, ⟨by decide, by decide, by decide⟩, _, _, rfl, rfl, _, rfl, ?_⟩
          refine ite2 (fun e3 => ?_) (fun e3 => ?_)
          · refine ⟨_, rfl, _, rfl, d, _, 1, _, rfl, rfl, SqL.of h1', rfl, ?_⟩
            refine ⟨cell, i + 1, rfl, by omega, by omega, fun r r0 => ?_⟩
            refine ⟨_, rfl, _, _, rfl, rfl, hm0, ?_⟩
            exact q _ _ (Int.emod_nonneg _ (by omega)) (Int.emod_lt_of_pos _ hm0) S1 ⟨cs, i + 1, l, m, z, h1', h2', ncd, len, by omega, by omega, l0, m0, by omega⟩
          · have big : (10 : Int) ^ 18 ≤ cell := by
              have := of_decide_eq_false (by simpa using e3 : decide (cell < (10 : Int) ^ 18) = false)
              omega
            refine ⟨_, rfl, _, rfl, d, _, 2, 2, rfl, rfl, h1', rfl, ?_⟩
            refine ⟨⟨_, _, rfl⟩, S1.mut, cs, i + 1, cell, m, z, upd_same, by rw [upd_ne ncd]; exact h2', ncd, len, by omega, by omega, by omega, m0, by omega⟩
        · exact ⟨⟨_, _, rfl⟩, SmX.refl H, hD⟩
      · exact ite2 (fun e2 => absurd e2 (by simp)) fun _ => ⟨⟨_, _, rfl⟩, SmX.refl H, hD⟩
    · obtain ⟨⟨x, y, rfl⟩, SM, cs, i, l, m, z, h1, h2, ncd, len, i0, i63, l0, m0, mn⟩ := hM
      refine ⟨fun σ' H' => σ' = [some (.ref d), some (.int many), x, y] ∧ H' = H1, ?_, fun σ' H2 hM => ?_⟩
      · refine ⟨_, rfl, d, _, 2, _, rfl, rfl, SqL.of h1, rfl, _, _, rfl, rfl, _, rfl, ?_⟩
        refine ite2 (fun e => ?_) (fun e => ⟨rfl, rfl⟩)
        refine ⟨_, rfl, d, _, 2, _, rfl, rfl, SqL.of h1, rfl, _, rfl, _, _, rfl, rfl, hm0, ?_⟩
        refine ⟨_, rfl, d, _, 2, _, rfl, rfl, SqL.of h1, rfl, _, rfl, _, _, rfl, rfl, wide_div (b := 60) hm0 (by omega) (by decide) (by decide), ?_⟩
        refine ⟨_, rfl, d, _, 2, 2, rfl, rfl, h1, rfl, ?_⟩
        refine ⟨_, rfl, ?_⟩
        refine q _ _ (Int.emod_nonneg _ (by omega)) (Int.emod_lt_of_pos _ hm0) SM.mut ⟨cs, i, l / many, m, z, upd_same, by rw [upd_ne ncd]; exact h2, ncd, len, i0, i63, Int.ediv_nonneg l0 (by omega), m0, by omega⟩
      · obtain ⟨rfl, rfl⟩ := hM
        refine ⟨_, rfl, d, _, 3, _, rfl, rfl, SqL.of h1, rfl, _, _, rfl, rfl, _, rfl, d, _, 3, 3, rfl, rfl, h1, rfl, ?_⟩
        have h1' : (upd H2 d (.lst [.ref c, .int i, .int l, .int (m + 1), .int z])) d = some (.lst [.ref c, .int i, .int l, .int (m + 1), .int z]) := upd_same
        refine ⟨_, rfl, d, _, 4, _, rfl, rfl, SqL.of h1', rfl, _, rfl, d, _, 3, _, rfl, rfl, SqL.of h1', rfl, _, _, rfl, rfl, ?_⟩
        refine ⟨z, m + 1 + _, rfl, by omega, by omega, fun r r0 => ?_⟩
        refine ⟨_, rfl, _, _, rfl, rfl, hm0, ?_⟩
        exact q _ _ (Int.emod_nonneg _ (by omega)) (Int.emod_lt_of_pos _ hm0) SM.mut ⟨cs, i, l, m + 1, z, h1', by rw [upd_ne ncd]; exact h2, ncd, len, i0, i63, l0, by omega, by omega⟩
end
end Far

namespace Far
open PySem PySem.Spec PyProof.Rows L2
open C8 (pss_cut tCut)
open SX (S)

/-- the signs of a name -/
def NameOk (l : List Nat) : Prop := 1 ≤ l.length ∧ l.length ≤ 8 ∧ ∀ c ∈ l, 97 ≤ c ∧ c ≤ 122
theorem sz_le {n : Nat} (h : n ≤ 100000) : n ≤ sizeLine := Nat.le_trans h (by decide)
theorem sz_lt {n : Nat} (h : n ≤ 100000) : n < sizeLine := Nat.lt_of_le_of_lt h (by decide)
theorem atI_in {α : Type} {xs : List α} {i : Int} (h0 : 0 ≤ i) (h1 : i < xs.length) : ∃ v, atI xs i = some v ∧ v ∈ xs := by
  have e : i = ((i.toNat : Nat) : Int) := by omega
  have l : i.toNat < xs.length := by omega
  refine ⟨xs[i.toNat], ?_, List.getElem_mem l⟩
  have q := atI_nat (List.getElem?_eq_getElem l)
  rwa [← e] at q
theorem S_of (z : Str) : ∃ l, z = S l := ⟨z.cps.toList, (SX.S_tl z).symm⟩
theorem join_none : ∀ ys : List (List Nat), TL.joinL [] ys = ys.flatten
  | [] => rfl
  | [x] => by simp [TL.joinL]
  | x :: y :: r => by
    have ih := join_none (y :: r)
    show x ++ ([] ++ TL.joinL [] (y :: r)) = x ++ (y :: r).flatten
    rw [ih]
    rfl
theorem flat_one (cs : List Nat) : (cs.map fun c => [c]).flatten = cs := by
  induction cs with
  | nil => rfl
  | cons c r ih => rw [List.map_cons, List.flatten_cons, ih]; rfl
theorem one_sum' (cs : List Nat) : ((cs.map fun c => S [c]).map (·.length)).sum = cs.length := by
  induction cs with
  | nil => rfl
  | cons c r ih =>
    rw [List.map_cons, List.map_cons, List.sum_cons, ih, List.length_cons, SX.S_len]
    show 1 + r.length = r.length + 1
    omega
abbrev s_law_name : Stmt := topS 18
abbrev N_law_name : List Str := ["deck", "size", "letters", "k"]
theorem sc_law_name : FnScope N_law_name ["deck"] (defScope s_law_name) := ⟨rfl, rfl, rfl, by decide +kernel, rfl, by decide +kernel, by decide +kernel⟩
section
variable {P : Program} {w : World} {K : PySem.W.Frag} {mg : Str → Option Value} {base : Heap}
def spName : Sp := fun vs H Q _ => ∃ (d c : Addr) (n : Nat), vs = [.ref d] ∧ DeckAt H d c n ∧ n < 90000 ∧ ∀ (H' : Hp) (l : List Nat), NameOk l → SmX d H H' → DeckAt H' d c (n + 11) → Q (.str (S l)) H'
theorem ok_name {f : Addr} {fd : FuncData} (F : Fun K "_law_name" "_law_name" s_law_name f fd) (T : Txt mg) (C_law_next : Cal P w K mg base 2 "_law_next" spNext) : FnOk P w K mg base CX0 3 f fd ["deck"] spName := by
  refine F.ok sc_law_name (fun vs H Q E h => ?_) (fun cdv A outer s H vs Q E hr h => ?_)
  · obtain ⟨d, c, n, rfl, _⟩ := h
    rfl
  · obtain ⟨d, c, n, rfl, hD, hn, q⟩ := h
    refine ⟨_, (pss_cons (ps_set (i := 1) sc_law_name.nd rfl (.inl rfl) (pe_ix ix_list (pe_lst (pa_cons pe_int (pa_cons pe_int (pa_cons pe_int (pa_cons (pe_op op_add pe_int (pe_c C_law_next hr (by decide) rfl (pa_cons (pv 0) (pa_cons pe_int pa_nil)))) pa_nil))))) (pe_c C_law_next hr (by decide) rfl (pa_cons (pv 0) (pa_cons pe_int pa_nil))) (fun _ _ => rfl)))
      (pss_cons (ps_set (i := 2) sc_law_name.nd rfl (.inr rfl) (pe_ix ix_list (pe_lst (pa_cons pe_str (pa_cons pe_str (pa_cons pe_str (pa_cons pe_str pa_nil))))) (pe_c C_law_next hr (by decide) rfl (pa_cons (pv 0) (pa_cons pe_int pa_nil))) (fun _ _ => rfl)))
      (pss_one (ps_ret (pe_join pe_str (pe_lc (own := [("k", 3)]) (g := gName 3) (tt := tYes) rfl sc_law_name.nd (pi_range1 (by rfl) T.range (pa_cons (pv 1) pa_nil)) (blkOk_by (N := N_law_name) (sc := defScope s_law_name) (by decide +kernel)) (fun _ _ _ _ _ => pg_name (i := 3) sc_law_name.nd rfl (Or.inl rfl)) (fun _ _ _ _ _ => pts_nil) (fun _ _ _ _ _ => (pe_ix ix_str (pv 2) (pe_c C_law_next hr (by decide) rfl (pa_cons (pv 0) (pa_cons (pe_callB (lenK (K := K)) (by rfl) T.len bt_len (pa_cons (pv 2) pa_nil)) pa_nil))) (fun _ _ => rfl))))))))), ?_⟩
    refine ⟨_, rfl, d, c, n, 8, rfl, hD, by omega, by decide, by decide, fun H1 r r0 r1 S1 D1 => ?_⟩
    refine ⟨_, _, rfl, rfl, (by show 4 ≤ sizeLine; decide), fun p np => ?_⟩
    have npd : p ≠ d := D1.nd np
    refine ⟨_, rfl, d, c, n + 1, 4, rfl, D1.new np, by omega, by decide, by decide, fun H2 r' r0' r1' S2 D2 => ?_⟩
    have hp : H2 p = some (.lst [.int 1, .int 2, .int 8, .int (1 + r)]) := S2 p _ npd upd_same
    obtain ⟨v, hv, mv⟩ := atI_in (xs := [V.int 1, .int 2, .int 8, .int (1 + r)]) r0' (by simpa using r1')
    have hs : ∃ sz : Int, v = .int sz ∧ 1 ≤ sz ∧ sz ≤ 8 := by
      simp only [List.mem_cons, List.not_mem_nil, or_false] at mv
      rcases mv with e | e | e | e <;> exact ⟨_, e, by omega, by omega⟩
    obtain ⟨sz, rfl, s1, s8⟩ := hs
    refine ⟨p, _, r', _, rfl, rfl, SqL.of hp, hv, ?_⟩
    have S12 : SmX d H H2 := (S1.new np).trans S2
    -- letters
    refine ⟨(by show 4 ≤ sizeLine; decide), fun p3 np3 => ?_⟩
    have npd3 : p3 ≠ d := D2.nd np3
    refine ⟨_, rfl, d, c, n + 2, 4, rfl, D2.new np3, by omega, by decide, by decide, fun H3 r'' r0'' r1'' S3 D3 => ?_⟩
    have hp3 := S3 p3 _ npd3 upd_same
    obtain ⟨v, hv, mv⟩ := atI_in (xs := [V.str ("abcdefghijklmnopqrstuvwxyz" : Str), .str ("ab" : Str), .str ("az" : Str), .str ("mno" : Str)]) r0'' (by simpa using r1'')
    have hs : ∃ ls : List Nat, v = .str (S ls) ∧ 1 ≤ ls.length ∧ ls.length ≤ 26 ∧ ∀ c ∈ ls, 97 ≤ c ∧ c ≤ 122 := by
      simp only [List.mem_cons, List.not_mem_nil, or_false] at mv
      rcases mv with e | e | e | e
      · exact ⟨("abcdefghijklmnopqrstuvwxyz" : Str).cps.toList, by rw [e, SX.S_tl], by decide +kernel, by decide +kernel, by decide +kernel⟩
      · exact ⟨("ab" : Str).cps.toList, by rw [e, SX.S_tl], by decide +kernel, by decide +kernel, by decide +kernel⟩
      · exact ⟨("az" : Str).cps.toList, by rw [e, SX.S_tl], by decide +kernel, by decide +kernel, by decide +kernel⟩
      · exact ⟨("mno" : Str).cps.toList, by rw [e, SX.S_tl], by decide +kernel, by decide +kernel, by decide +kernel⟩
    obtain ⟨ls, rfl, l1, l26, lok⟩ := hs
    refine ⟨p3, _, r'', _, rfl, rfl, SqL.of hp3, hv, ?_⟩
    have S13 : SmX d H H3 := (S12.new np3).trans S3
    -- the join
    refine ⟨⟨_, rfl⟩, _, rfl, sz, rfl, by omega, by omega, fun D nD => ?_⟩
    have nDd : D ≠ d := D3.nd nD
    have nDc : D ≠ c := D3.nc nD
    refine lc_range (lo := 0) (n := sz.toNat) (fun i H' => ∃ cs : List Nat, cs.length = i ∧ (∀ c ∈ cs, 97 ≤ c ∧ c ≤ 122) ∧ H' D = some (.lst ((cs.map fun c => S [c]).map V.str)) ∧ SmX d H H' ∧ DeckAt H' d c (n + 3 + i)) ⟨[], rfl, by simp, upd_same, S13.new nD, D3.new nD⟩ (fun i H' hi hP => ?_) (fun H' hP => ?_)
    · obtain ⟨cs, hl, hc, hD', SM, DD⟩ := hP
      refine ⟨rfl, _, rfl, _, rfl, _, rfl, .str (S ls), ls.length, rfl, ⟨by rw [SX.S_len]; exact sz_le (by omega), (SX.S_len _).symm⟩, d, c, _, _, rfl, DD, by omega, by omega, by omega, fun H4 r4 r40 r41 S4 D4 => ?_⟩
      obtain ⟨v, hv, mv⟩ := atI_in (xs := ls) r40 r41
      refine ⟨S ls, r4, v, rfl, rfl, by rw [SX.S_len]; exact sz_le (by omega), by simpa using hv, ?_⟩
      refine ⟨_, S4 D _ nDd hD', by rw [List.length_map, List.length_map]; exact sz_lt (by omega), cs ++ [v], by simp [hl], fun c hc' => ?_, ?_, (SM.trans S4).put ?_, ?_⟩
      · rcases List.mem_append.mp hc' with z | z
        · exact hc c z
        · rw [List.mem_singleton.mp z]
          exact lok v mv
      · rw [upd_same, List.map_append, List.map_append]
        rfl
      · exact SmX.free S13 nD nDd
      · exact D4.put nDd nDc
    · obtain ⟨cs, hl, hc, hD', SM, DD⟩ := hP
      refine ⟨_, D, cs.map (fun c => S [c]), rfl, rfl, .inl (SqL.of hD'), ?_, ?_⟩
      · rw [one_sum']
        have : ((("" : Str)).length) = 0 := rfl
        rw [this, List.length_map]
        omega
      · have e : Txt.join ("" : Str) (cs.map fun c => S [c]) = S cs := by
          have := SX.join_S [] (cs.map fun c => [c])
          rw [List.map_map] at this
          rw [join_none, flat_one] at this
          exact this
        rw [e]
        exact q H' cs ⟨by omega, by omega, hc⟩ SM (DD.mono (by omega))
end
end Far

namespace Far
open PySem PySem.Spec PyProof.Rows L2
open C8 (pss_cut tCut)
open SX (S)

/-! ### lists without an item twice -/
theorem nodup_sub_len {α : Type} [DecidableEq α] : ∀ (l m : List α), l.Nodup → (∀ x ∈ l, x ∈ m) → l.length ≤ m.length
  | [], _, _, _ => Nat.zero_le _
  | a :: r, m, h, hs => by
    obtain ⟨h1, h2⟩ := List.nodup_cons.mp h
    have ha : a ∈ m := hs a (List.mem_cons.mpr (.inl rfl))
    have ih := nodup_sub_len r (m.erase a) h2 fun x hx => by
      have ne : x ≠ a := fun e => h1 (e ▸ hx)
      exact (List.mem_erase_of_ne ne).mpr (hs x (List.mem_cons.mpr (.inr hx)))
    have hl := List.length_erase_of_mem ha
    have hp : 0 < m.length := List.length_pos_of_mem ha
    rw [List.length_cons]
    omega
theorem nd_snoc' {α : Type} {l : List α} {x : α} (h : l.Nodup) (hx : x ∉ l) : (l ++ [x]).Nodup := by
  rw [List.nodup_append]
  exact ⟨h, by simp, fun a ha b hb e => hx (by rw [← List.mem_singleton.mp hb, ← e]; exact ha)⟩

/-! ### texts as data -/
theorem strOk_S {l : List Nat} (h : NameOk l) : PyData.strOk (S l) = true := by
  show (l.toArray.all (· < 0x110000)) = true
  rw [← Array.all_toList, List.all_eq_true]
  intro c hc
  have := h.2.2 c hc
  exact decide_eq_true (by omega)
theorem inV_strs (l : List Nat) (ls : List (List Nat)) : inV (.str (S l)) ((ls.map S).map V.str) = decide (l ∈ ls) := by
  induction ls with
  | nil => rfl
  | cons a r ih =>
    show (S a == S l || inV (.str (S l)) ((r.map S).map V.str)) = _
    rw [ih, SX.S_beq_eq]
    by_cases e : a = l
    · subst e
      simp
    · have : l ≠ a := fun z => e z.symm
      simp [e, this]
theorem flat_strs (ls : List (List Nat)) : ((ls.map S).map V.str).all flatV = true := by
  induction ls with
  | nil => rfl
  | cons a r ih => exact ih
theorem strs_at {ls : List (List Nat)} {v : V} (h : v ∈ (ls.map S).map V.str) : ∃ l ∈ ls, v = .str (S l) := by
  obtain ⟨z, hz, rfl⟩ := List.mem_map.mp h
  obtain ⟨l, hl, rfl⟩ := List.mem_map.mp hz
  exact ⟨l, hl, rfl⟩
theorem dp_strs (K : PySem.W.Frag) (H : Hp) : ∀ ls : List (List Nat), DpAll K H ((ls.map S).map V.str) (ls.map fun l => PyData.str (S l))
  | [] => .nil
  | l :: r => .cons (.str _) (dp_strs K H r)
theorem lay_strs : ∀ {ls : List (List Nat)}, (∀ l ∈ ls, NameOk l) → PyData.canLayAll0 (ls.map fun l => PyData.str (S l)) = true
  | [], _ => rfl
  | l :: r, h => by
    show (PyData.strOk (S l) && PyData.canLayAll0 (r.map fun l => PyData.str (S l))) = true
    rw [strOk_S (h l (List.mem_cons.mpr (.inl rfl))), lay_strs fun x hx => h x (List.mem_cons.mpr (.inr hx))]
    rfl
theorem dep_strs : ∀ ls : List (List Nat), PyData.depthAll (ls.map fun l => PyData.str (S l)) = 0
  | [] => rfl
  | l :: r => by
    show max 0 (PyData.depthAll (r.map fun l => PyData.str (S l))) = 0
    rw [dep_strs r]
    rfl
theorem shaped_strs {ls : List (List Nat)} (h : ∀ l ∈ ls, NameOk l) : SeqAt.shaped (.list (ls.map fun l => PyData.str (S l))) = true := by
  show (PyData.canLayAll0 (ls.map fun l => PyData.str (S l)) && decide (PyData.depthAll (ls.map fun l => PyData.str (S l)) + 1 ≤ 64)) = true
  rw [lay_strs h, dep_strs]
  rfl

/-! ### names made otherwise -/
theorem a8_is : ("aaaaaaaa" : Str) = S (List.replicate 8 97) := by decide +kernel
theorem ten_at : ∀ k : _root_.Fin 10, atI ("abcdefghij" : Str).cps.toList ((k.val : Nat) : Int) = some (97 + k.val) := by decide +kernel
theorem abc_ok : ∀ c ∈ ("abcdefghijklmnopqrstuvwxyz" : Str).cps.toList, 97 ≤ c ∧ c ≤ 122 := by decide +kernel
def cand (q : List Nat) (j : Nat) : List Nat := q ++ [97 + j / 10] ++ [97 + j % 10]
theorem cand_inj {q : List Nat} {i j : Nat} (h : cand q i = cand q j) : i = j := by
  unfold cand at h
  rw [List.append_assoc, List.append_assoc] at h
  have := List.append_cancel_left h
  simp at this
  omega
def six (l : List Nat) : List Nat := (l ++ List.replicate 8 97).take 6
theorem six_len (l : List Nat) : (six l).length = 6 := by
  unfold six
  rw [List.length_take, List.length_append, List.length_replicate]
  omega
theorem six_ok {l : List Nat} (h : NameOk l) : ∀ c ∈ six l, 97 ≤ c ∧ c ≤ 122 := fun c hc => by
  have := List.mem_of_mem_take hc
  rcases List.mem_append.mp this with z | z
  · exact h.2.2 c z
  · rw [List.eq_of_mem_replicate z]
    omega
theorem cand_len {q : List Nat} (hq : q.length = 6) (j : Nat) : (cand q j).length = 8 := by
  unfold cand
  simp [hq]
theorem six_cand {q : List Nat} (hq : q.length = 6) (j : Nat) : six (cand q j) = q := by
  unfold six cand
  rw [List.append_assoc, List.append_assoc, ← hq]
  simp
theorem cand_ok {q : List Nat} (hq : q.length = 6) (ho : ∀ c ∈ q, 97 ≤ c ∧ c ≤ 122) {j : Nat} (hj : j < 100) : NameOk (cand q j) := by
  refine ⟨by rw [cand_len hq]; omega, by rw [cand_len hq]; omega, fun c hc => ?_⟩
  unfold cand at hc
  simp at hc
  rcases hc with z | z | z
  · exact ho c z
  · omega
  · omega
/-- of the names tried so far all but the last are found already -/
structure Tried (ls : List (List Nat)) (t : Nat) (l : List Nat) : Prop where
  ok : NameOk l
  last : t ≠ 0 → l = cand (six l) (t - 1)
  old : ∀ j, j + 1 < t → cand (six l) j ∈ ls
theorem Tried.lt {ls : List (List Nat)} {t : Nat} {l : List Nat} (h : Tried ls t l) (hl : l ∈ ls) : t ≤ ls.length := by
  have sub : ∀ x ∈ (List.range t).map (cand (six l)), x ∈ ls := fun x hx => by
    obtain ⟨j, hj, rfl⟩ := List.mem_map.mp hx
    have hj := List.mem_range.mp hj
    by_cases e : j + 1 < t
    · exact h.old j e
    · have e2 : j = t - 1 := by omega
      rw [e2, ← h.last (by omega)]
      exact hl
  have nd : ((List.range t).map (cand (six l))).Nodup := by
    rw [List.Nodup, List.pairwise_map]
    exact (List.nodup_range (n := t)).imp fun ne e => ne (cand_inj e)
  have := nodup_sub_len _ ls nd sub
  rw [List.length_map, List.length_range] at this
  exact this
theorem Tried.next {ls : List (List Nat)} {t : Nat} {l : List Nat} (h : Tried ls t l) (hl : l ∈ ls) (h30 : ls.length < 30) : Tried ls (t + 1) (cand (six l) t) := by
  have hlt := h.lt hl
  have e6 := six_cand (six_len l) t
  refine ⟨cand_ok (six_len l) (six_ok h.ok) (by omega), fun _ => by rw [e6]; rfl, fun j hj => ?_⟩
  rw [e6]
  by_cases e : j + 1 < t
  · exact h.old j e
  · have e2 : j = t - 1 := by omega
    rw [e2, ← h.last (by omega)]
    exact hl
end Far

namespace Far
open PySem PySem.Spec PyProof.Rows L2
open C8 (pss_cut tCut)
open SX (S)
abbrev s_law_names : Stmt := topS 19
abbrev N_law_names : List Str := ["deck", "many", "found", "name", "at", "sign", "some", "turn", "ten"]
theorem sc_law_names : FnScope N_law_names ["deck", "many"] (defScope s_law_names) := ⟨rfl, rfl, rfl, by decide +kernel, rfl, by decide +kernel, by decide +kernel⟩
section
variable {P : Program} {w : World} {K : PySem.W.Frag} {mg : Str → Option Value} {base : Heap}
def NamesAt (H : Hp) (p : Addr) (ls : List (List Nat)) : Prop := H p = some (.lst ((ls.map S).map V.str))
def spNames : Sp := fun vs H Q _ => ∃ (d c : Addr) (n : Nat) (many : Nat), vs = [.ref d, .int many] ∧ DeckAt H d c n ∧ n < 80000 ∧ many ≤ 30 ∧ ∀ (H' : Hp) (p : Addr) (ls : List (List Nat)), H p = none → p ≠ d → p ≠ c → NamesAt H' p ls → ls.length = many → ls.Nodup → (∀ l ∈ ls, NameOk l) → SmX d H H' → DeckAt H' d c (n + 600) → Q (.ref p) H'
theorem ok_names {f : Addr} {fd : FuncData} (F : Fun K "_law_names" "_law_names" s_law_names f fd) (T : Txt mg) (C_law_next : Cal P w K mg base 2 "_law_next" spNext) (C_law_name : Cal P w K mg base 3 "_law_name" spName) : FnOk P w K mg base CX0 4 f fd ["deck", "many"] spNames := by
  refine F.ok sc_law_names (fun vs H Q E h => ?_) (fun cdv A outer s H vs Q E hr h => ?_)
  · obtain ⟨d, c, n, many, rfl, _⟩ := h
    rfl
  · obtain ⟨d, c, n, many, rfl, hD, hn, hm, q⟩ := h
    refine ⟨_, (pss_cons (ps_set (i := 2) sc_law_names.nd rfl (.inl rfl) (pe_lst pa_nil))
      (pss_cut (ps_while PassesOwn.never (pt_cmpR op_lt (pe_callB call_len_seq (by rfl) T.len bt_len (pa_cons (pv 2) pa_nil)) (pv 1) (nomark _))
        (pss_cons (ps_set (i := 3) sc_law_names.nd rfl (.inl rfl) (pe_c C_law_name hr (by decide) rfl (pa_cons (pv 0) pa_nil)))
        (pss_cut (ps_if (PW.pt (pw_and (pt_cmpR (op_neD (hd_of hr (by decide))) (pv 2) (pe_lst pa_nil) (nomark _)) (pw_and1 (pt_cmpR op_eq (pe_c C_law_next hr (by decide) rfl (pa_cons (pv 0) (pa_cons pe_int pa_nil))) pe_int (nomark _)))))
          (pss_cons (ps_set (i := 3) sc_law_names.nd rfl (.inl rfl) (pe_ix ix_list (pv 2) (pe_c C_law_next hr (by decide) rfl (pa_cons (pv 0) (pa_cons (pe_callB call_len_seq (by rfl) T.len bt_len (pa_cons (pv 2) pa_nil)) pa_nil))) (fun _ _ => rfl)))
          (pss_cons (ps_set (i := 4) sc_law_names.nd rfl (.inl rfl) (pe_c C_law_next hr (by decide) rfl (pa_cons (pv 0) (pa_cons (pe_callB call_len (by rfl) T.len bt_len (pa_cons (pv 3) pa_nil)) pa_nil))))
          (pss_cons (ps_set (i := 5) sc_law_names.nd rfl (.inl rfl) (pe_ix ix_str pe_str (pe_c C_law_next hr (by decide) rfl (pa_cons (pv 0) (pa_cons pe_int pa_nil))) (fun _ _ => rfl)))
          (pss_cons (ps_set (i := 6) sc_law_names.nd rfl (.inl rfl) (pe_lst (pa_cons (pe_op op_add_str (pe_op op_add_str (pe_slice C8.sl_txt (pv 3) po_none (po_some (pv 4))) (pv 5)) (pe_slice C8.sl_txt (pv 3) (po_some (pe_op op_add (pv 4) pe_int)) po_none)) (pa_cons (pe_slice C8.sl_txt (pv 3) po_none (po_some (pe_op op_add (pv 4) pe_int))) (pa_cons (pe_slice C8.sl_txt (pe_op op_add_str (pv 3) (pv 5)) po_none (po_some pe_int)) pa_nil)))))
          (pss_one (ps_set (i := 3) sc_law_names.nd rfl (.inl rfl) (pe_ix ix_list (pv 6) (pe_c C_law_next hr (by decide) rfl (pa_cons (pv 0) (pa_cons pe_int pa_nil))) (fun _ _ => rfl))))))))
          pss_nil)
        (pss_cons (ps_set (i := 7) sc_law_names.nd rfl (.inl rfl) pe_int)
        (pss_cut (ps_while PassesOwn.never (pt_cmpR op_in_seq (pv 3) (pv 2) rfl)
          (pss_cons (ps_set (i := 8) sc_law_names.nd rfl (.inl rfl) (pe_ix ix_str pe_str (pe_op op_fdiv (pv 7) pe_int) (fun _ _ => rfl)))
          (pss_cons (ps_set (i := 3) sc_law_names.nd rfl (.inl rfl) (pe_op op_add_str (pe_op op_add_str (pe_slice C8.sl_txt (pe_op op_add_str (pv 3) pe_str) po_none (po_some pe_int)) (pv 8)) (pe_ix ix_str pe_str (pe_op op_mod (pv 7) pe_int) (fun _ _ => rfl))))
          (pss_one (ps_set (i := 7) sc_law_names.nd rfl (.inl rfl) (pe_op op_add (pv 7) pe_int))))))
        (pss_one (ps_expr (pe_bm PySem.F.plainAttrs_list PySem.F.slot_list_append PySem.F.type_list_append mt_append (pv 2) (pa_cons (pv 3) pa_nil)))))))))
      (pss_one (ps_ret (pv 2))))), ?_⟩
    refine ⟨Nat.zero_le _, fun p np => ?_⟩
    have npd : p ≠ d := hD.nd np
    have npc : p ≠ c := hD.nc np
    -- the loop
    refine ⟨fun σ' H' => ∃ (ls : List (List Nat)) (x3 x4 x5 x6 x7 x8 : Option V), σ' = [some (.ref d), some (.int many), some (.ref p), x3, x4, x5, x6, x7, x8] ∧ NamesAt H' p ls ∧ ls.length = many ∧ ls.Nodup ∧ (∀ l ∈ ls, NameOk l) ∧ SmX d H H' ∧ DeckAt H' d c (n + 600), ?_, fun σ' H' hM => ?_⟩
    · refine ⟨fun m σ' H' => ∃ (ls : List (List Nat)) (x3 x4 x5 x6 x7 x8 : Option V), σ' = [some (.ref d), some (.int many), some (.ref p), x3, x4, x5, x6, x7, x8] ∧ NamesAt H' p ls ∧ ls.length + m = many ∧ ls.Nodup ∧ (∀ l ∈ ls, NameOk l) ∧ SmX d H H' ∧ DeckAt H' d c (n + 16 * ls.length), ⟨many, [], none, none, none, none, none, none, rfl, upd_same, by simp, List.nodup_nil, by simp, (SmX.refl H).new np, hD.new np⟩, ?_⟩
      rintro m σ1 H1 ⟨ls, x3, x4, x5, x6, x7, x8, rfl, hN, hl, nd, ok, SM, DD⟩
      refine ⟨_, rfl, p, _, rfl, .inl (SqL.of hN), _, rfl, _, _, rfl, rfl, _, rfl, ?_⟩
      rw [List.length_map, List.length_map]
      refine ite2 (fun e => ?_) (fun e => ?_)
      · have lt : ls.length < many := by simpa using of_decide_eq_true e
        refine ⟨fun σ' H' => ∃ (ls' : List (List Nat)) (x3 x4 x5 x6 x7 x8 : Option V), σ' = [some (.ref d), some (.int many), some (.ref p), x3, x4, x5, x6, x7, x8] ∧ NamesAt H' p ls' ∧ ls'.length = ls.length + 1 ∧ ls'.Nodup ∧ (∀ l ∈ ls', NameOk l) ∧ SmX d H H' ∧ DeckAt H' d c (n + 16 * ls'.length), fun σ' H' hM => ?_, ?_⟩
        · obtain ⟨ls', y3, y4, y5, y6, y7, y8, e1, e2, e3, e4, e5, e6, e7⟩ := hM
          exact ⟨m - 1, by omega, ls', y3, y4, y5, y6, y7, y8, e1, e2, by omega, e4, e5, e6, e7⟩
        -- name = _law_name(deck)
        refine ⟨_, rfl, d, c, n + 16 * ls.length, rfl, DD, by omega, fun H2 l hlok S2 D2 => ?_⟩
        have hN2 : NamesAt H2 p ls := S2 p _ npd hN
        have SM2 : SmX d H H2 := SM.trans S2
        -- the if
        refine ⟨fun σ' H' => ∃ (l : List Nat) (x4 x5 x6 : Option V), σ' = [some (.ref d), some (.int many), some (.ref p), some (.str (S l)), x4, x5, x6, x7, x8] ∧ NameOk l ∧ NamesAt H' p ls ∧ SmX d H H' ∧ DeckAt H' d c (n + 16 * ls.length + 16), ?_, fun σ' H' hM => ?_⟩
        · refine ⟨_, rfl, Nat.zero_le _, fun p2 np2 => ?_⟩
          have hN2' : NamesAt (upd H2 p2 (.lst [])) p ls := by
            unfold NamesAt
            rw [upd_ne (ne_of_none hN2 np2)]
            exact hN2
          have D2' := D2.new (o := .lst []) np2
          have SM2' : SmX d H (upd H2 p2 (.lst [])) := SM2.new np2
          refine ⟨_, _, .lst (SqL.of hN2') (dp_strs _ _ ls), .lst (SqL.of upd_same) .nil, shaped_strs ok, rfl, _, rfl, ?_⟩
          refine ite2 (fun e1 => ?_) (fun e1 => ?_)
          · have pos : 0 < ls.length := by
              cases ls with
              | nil => exact absurd e1 (by decide)
              | cons a r => exact Nat.succ_pos _
            refine ⟨_, rfl, d, c, _, 3, rfl, D2', by omega, by decide, by decide, fun H3 r r0 r1 S3 D3 => ?_⟩
            have hN3 : NamesAt H3 p ls := S3 p _ npd hN2'
            have SM3 : SmX d H H3 := SM2'.trans S3
            refine ⟨rfl, _, rfl, ite2 (fun e2 => ?_) (fun e2 => ?_)⟩
            · -- name = found[..]
              refine ⟨_, rfl, _, rfl, _, rfl, p, _, rfl, .inl (SqL.of hN3), d, c, _, _, rfl, D3, by omega, ?_, ?_, fun H4 r4 r40 r41 S4 D4 => ?_⟩
              · rw [List.length_map, List.length_map]
                omega
              · rw [List.length_map, List.length_map]
                omega
              have hN4 : NamesAt H4 p ls := S4 p _ npd hN3
              obtain ⟨v, hv, mv⟩ := atI_in r40 r41
              obtain ⟨l2, hl2, rfl⟩ := strs_at mv
              have ok2 := ok l2 hl2
              refine ⟨p, _, r4, _, rfl, rfl, SqL.of hN4, hv, ?_⟩
              -- at
              refine ⟨_, rfl, _, rfl, .str (S l2), l2.length, rfl, ⟨by rw [SX.S_len]; exact sz_le (by have := ok2.2.1; omega), (SX.S_len _).symm⟩, d, c, _, _, rfl, D4, by omega, by have := ok2.1; omega, by have := ok2.2.1; omega, fun H5 r5 r50 r51 S5 D5 => ?_⟩
              -- sign
              refine ⟨_, rfl, d, c, _, 26, rfl, D5, by omega, by decide, by decide, fun H6 r6 r60 r61 S6 D6 => ?_⟩
              obtain ⟨sg, hsg, msg⟩ := atI_in (xs := ("abcdefghijklmnopqrstuvwxyz" : Str).cps.toList) r60 (by
                have : ("abcdefghijklmnopqrstuvwxyz" : Str).cps.toList.length = 26 := by decide +kernel
                omega)
              have oks := abc_ok sg msg
              refine ⟨("abcdefghijklmnopqrstuvwxyz" : Str), r6, sg, rfl, rfl, by decide, hsg, ?_⟩
              have hN6 : NamesAt H6 p ls := S6 p _ npd (S5 p _ npd hN4)
              have SM6 : SmX d H H6 := ((SM3.trans S4).trans S5).trans S6
              have h8 := ok2.2.1
              have h1 := ok2.1
              -- some
              refine ⟨_, rfl, _, rfl, r5, rfl, S l2, rfl, by rw [SX.S_len]; exact sz_le (by omega), _, rfl, S (l2.take r5.toNat), S [sg], congrArg V.str (SX.slice_to r50), rfl, by rw [SX.S_len, SX.S_len, List.length_take, List.length_singleton]; exact sz_le (by omega),
                _, rfl, _, rfl, r5, 1, rfl, rfl, r5 + 1, rfl, S l2, rfl, by rw [SX.S_len]; exact sz_le (by omega), S (l2.take r5.toNat ++ [sg]), S (l2.drop (r5 + 1).toNat), congrArg V.str (SX.S_cat _ _), congrArg V.str (SX.slice_from (by omega)), by rw [SX.S_len, SX.S_len, List.length_append, List.length_take, List.length_drop, List.length_singleton]; exact sz_le (by omega),
                _, rfl, _, rfl, r5, 1, rfl, rfl, r5 + 1, rfl, S l2, rfl, by rw [SX.S_len]; exact sz_le (by omega), 
                _, rfl, _, rfl, S l2, S [sg], rfl, rfl, by rw [SX.S_len, SX.S_len, List.length_singleton]; exact sz_le (by omega), 8, rfl, S (l2 ++ [sg]), congrArg V.str (SX.S_cat _ _), by rw [SX.S_len, List.length_append, List.length_singleton]; exact sz_le (by omega), by show 3 ≤ sizeLine; decide, fun p7 np7 => ?_⟩
              have np7d := D6.nd np7
              have D6' := D6.new (o := .lst [V.str (S (l2.take r5.toNat ++ [sg]) ++ S (l2.drop (r5 + 1).toNat)), .str (Txt.slice (S l2) none (some (r5 + 1))), .str (Txt.slice (S (l2 ++ [sg])) none (some 8))]) np7
              refine ⟨_, rfl, _, rfl, d, c, _, 3, rfl, D6', by omega, by decide, by decide, fun H7 r7 r70 r71 S7 D7 => ?_⟩
              have h7 := S7 p7 _ np7d upd_same
              have SM7 : SmX d H H7 := (SM6.new np7).trans S7
              have hN7 : NamesAt H7 p ls := S7 p _ npd (by rw [upd_ne (ne_of_none hN6 np7)]; exact hN6)
              obtain ⟨v, hv, mv⟩ := atI_in (xs := [V.str (S (l2.take r5.toNat ++ [sg]) ++ S (l2.drop (r5 + 1).toNat)), .str (Txt.slice (S l2) none (some (r5 + 1))), .str (Txt.slice (S (l2 ++ [sg])) none (some 8))]) r70 (by simpa using r71)
              have hs : ∃ l3 : List Nat, v = .str (S l3) ∧ NameOk l3 := by
                simp only [List.mem_cons, List.not_mem_nil, or_false] at mv
                rcases mv with e | e | e
                · refine ⟨l2.take r5.toNat ++ [sg] ++ l2.drop (r5 + 1).toNat, by rw [e, SX.S_cat], ?_, ?_, fun x hx => ?_⟩
                  · simp
                    omega
                  · simp
                    omega
                  · rcases List.mem_append.mp hx with z | z
                    · rcases List.mem_append.mp z with z | z
                      · exact ok2.2.2 x (List.mem_of_mem_take z)
                      · rw [List.mem_singleton.mp z]
                        exact oks
                    · exact ok2.2.2 x (List.mem_of_mem_drop z)
                · refine ⟨l2.take (r5 + 1).toNat, by rw [e, SX.slice_to (by omega)], ?_, ?_, fun x hx => ok2.2.2 x (List.mem_of_mem_take hx)⟩
                  · rw [List.length_take]
                    omega
                  · rw [List.length_take]
                    omega
                · refine ⟨(l2 ++ [sg]).take 8, by rw [e, SX.slice_to (by decide)]; rfl, ?_, ?_, fun x hx => ?_⟩
                  · rw [List.length_take, List.length_append, List.length_singleton]
                    omega
                  · rw [List.length_take]
                    omega
                  · rcases List.mem_append.mp (List.mem_of_mem_take hx) with z | z
                    · exact ok2.2.2 x z
                    · rw [List.mem_singleton.mp z]
                      exact oks
              obtain ⟨l3, rfl, ok3⟩ := hs
              refine ⟨p7, _, r7, _, rfl, rfl, SqL.of h7, hv, ?_⟩
              exact ⟨l3, _, _, _, rfl, ok3, hN7, SM7, D7⟩
            · exact ⟨l, _, _, _, rfl, hlok, hN3, SM3, D3.mono (by omega)⟩
          · exact ⟨l, _, _, _, rfl, hlok, hN2', SM2', D2'.mono (by omega)⟩
        · -- the second loop
          obtain ⟨l, y4, y5, y6, rfl, lok, hN3, SM3, D3⟩ := hM
          refine ⟨fun σ' H'' => ∃ (l : List Nat) (x7 x8 : Option V), σ' = [some (.ref d), some (.int many), some (.ref p), some (.str (S l)), y4, y5, y6, x7, x8] ∧ NameOk l ∧ l ∉ ls ∧ H'' = H', ?_, fun σ' H'' hM => ?_⟩
          · refine ⟨fun m σ' H'' => ∃ (l : List Nat) (t : Nat) (x8 : Option V), σ' = [some (.ref d), some (.int many), some (.ref p), some (.str (S l)), y4, y5, y6, some (.int t), x8] ∧ H'' = H' ∧ Tried ls t l ∧ t + m = 100, ⟨100, l, 0, x8, rfl, rfl, ⟨lok, fun z => absurd rfl z, fun j hj => absurd hj (by omega)⟩, rfl⟩, ?_⟩
            rintro m' σ2 H4 ⟨l, t, x8, rfl, rfl, tr, em⟩
            refine ⟨_, rfl, _, rfl, p, _, rfl, .inl (SqL.of hN3), rfl, flat_strs ls, _, rfl, ?_⟩
            rw [inV_strs]
            refine ite2 (fun e2 => ?_) (fun e2 => ?_)
            · have hin : l ∈ ls := of_decide_eq_true e2
              have tl := tr.lt hin
              have nx := tr.next hin (by omega)
              refine ⟨fun σ' H'' => ∃ (l : List Nat) (t' : Nat) (x8 : Option V), σ' = [some (.ref d), some (.int many), some (.ref p), some (.str (S l)), y4, y5, y6, some (.int t'), x8] ∧ H'' = H4 ∧ Tried ls t' l ∧ t' = t + 1, ?_, ?_⟩
              · rintro σ' H'' ⟨l', t', x8', e1, e2', e3, e4⟩
                exact ⟨m' - 1, by omega, l', t', x8', e1, e2', e3, by omega⟩
              have et : (t : Int) / 10 = (((t / 10 : Nat)) : Int) := by omega
              have em' : (t : Int) % 10 = (((t % 10 : Nat)) : Int) := by omega
              have a1 : atI ("abcdefghij" : Str).cps.toList ((t : Int) / 10) = some (97 + t / 10) := by
                rw [et]
                exact ten_at ⟨t / 10, by omega⟩
              have a2 : atI ("abcdefghij" : Str).cps.toList ((t : Int) % 10) = some (97 + t % 10) := by
                rw [em']
                exact ten_at ⟨t % 10, by omega⟩
              have l8 := tr.ok.2.1
              have s6 := six_len l
              refine ⟨_, rfl, _, _, rfl, rfl, ⟨by decide, by decide⟩, ("abcdefghij" : Str), (t : Int) / 10, _, rfl, rfl, by decide, a1, ?_⟩
              refine ⟨_, rfl, S l, S (List.replicate 8 97), rfl, congrArg V.str a8_is, by rw [SX.S_len, SX.S_len, List.length_replicate]; exact sz_le (by omega), 6, rfl, S (l ++ List.replicate 8 97), congrArg V.str (SX.S_cat _ _), by rw [SX.S_len, List.length_append, List.length_replicate]; exact sz_le (by omega),
                _, rfl, S (six l), S [97 + t / 10], congrArg V.str (SX.slice_to (by decide)), rfl, by rw [SX.S_len, SX.S_len, s6]; exact sz_le (by simp), _, rfl, _, _, rfl, rfl, (by show (0 : Int) < _; decide), ("abcdefghij" : Str), (t : Int) % 10, _, rfl, rfl, by decide, a2,
                S (six l ++ [97 + t / 10]), S [97 + t % 10], congrArg V.str (SX.S_cat _ _), rfl, by rw [SX.S_len, SX.S_len, List.length_append, s6]; exact sz_le (by simp), ?_⟩
              refine ⟨_, rfl, _, _, rfl, rfl, ?_⟩
              refine ⟨cand (six l) t, t + 1, some (.str (S [97 + t / 10])), ?_, rfl, nx, rfl⟩
              show [some (V.ref d), some (V.int many), some (V.ref p), some (V.str (S (six l ++ [97 + t / 10]) ++ S [97 + t % 10])), y4, y5, y6, some (V.int ((t : Int) + 1)), some (V.str (S [97 + t / 10]))] = _
              rw [SX.S_cat]
              rfl
            · exact ⟨l, _, _, rfl, tr.ok, fun z => e2 (decide_eq_true z), rfl⟩
          · obtain ⟨l, x7, x8, rfl, lok, nin, rfl⟩ := hM
            refine ⟨_, rfl, .inl ⟨rfl, _, SqL.of hN3⟩, _, rfl, p, _, _, rfl, rfl, hN3, ?_, ?_⟩
            · rw [List.length_map, List.length_map]
              exact sz_lt (by omega)
            refine ⟨ls ++ [l], _, _, _, _, _, _, rfl, ?_, by simp, nd_snoc' nd nin, fun x hx => ?_, SM3.put np, ?_⟩
            · unfold NamesAt
              rw [upd_same, List.map_append, List.map_append]
              rfl
            · rcases List.mem_append.mp hx with z | z
              · exact ok x z
              · rw [List.mem_singleton.mp z]
                exact lok
            · exact (D3.put npd npc).mono (by rw [List.length_append, List.length_singleton]; omega)
      · have ge : many ≤ ls.length := by
          have := of_decide_eq_false (by simpa using e : decide ((ls.length : Int) < many) = false)
          omega
        exact ⟨ls, _, _, _, _, _, _, rfl, hN, by omega, nd, ok, SM, DD.mono (by omega)⟩
    · obtain ⟨ls, x3, x4, x5, x6, x7, x8, rfl, hN, hl, nd, ok, SM, DD⟩ := hM
      exact ⟨_, rfl, q H' p ls np npd npc hN hl nd ok SM DD⟩
end
end Far

namespace Far
open PySem PySem.Spec PyProof.Rows L2
open SX (S)
abbrev Nm := List Nat
abbrev Tie := Nm × Nm × Int
/-- places in an order in which each has one tie to those ahead; the ties in that order -/
inductive Grown : List Nm → List Tie → Prop
  | one (a : Nm) : Grown [a] []
  | leaf {os : List Nm} {es : List Tie} {a b : Nm} {k : Int} {e : Tie} : Grown os es → a ∈ os → b ∉ os → e = (a, b, k) ∨ e = (b, a, k) → 1 ≤ k → k ≤ 1000000 → Grown (os ++ [b]) (es ++ [e])
def IsTree (pl : List Nm) (ts : List Tie) : Prop := ∃ os es, Grown os es ∧ pl.Perm os ∧ ts.Perm es
theorem Grown.nodup {os : List Nm} {es : List Tie} (h : Grown os es) : os.Nodup := by
  induction h with
  | one a => simp
  | leaf _ _ hb _ _ _ ih => exact nd_snoc' ih hb
theorem Grown.len {os : List Nm} {es : List Tie} (h : Grown os es) : os.length = es.length + 1 := by
  induction h with
  | one a => rfl
  | leaf _ _ _ _ _ _ ih => rw [List.length_append, List.length_append, ih]; rfl
theorem Grown.ties {os : List Nm} {es : List Tie} (h : Grown os es) : ∀ e ∈ es, e.1 ∈ os ∧ e.2.1 ∈ os ∧ 1 ≤ e.2.2 ∧ e.2.2 ≤ 1000000 := by
  induction h with
  | one a => simp
  | leaf h1 ha hb he k1 k2 ih =>
    intro e hm
    rcases List.mem_append.mp hm with z | z
    · obtain ⟨a1, a2, a3⟩ := ih e z
      exact ⟨List.mem_append_left _ a1, List.mem_append_left _ a2, a3⟩
    · rw [List.mem_singleton.mp z]
      rcases he with e | e <;> rw [e] <;> simp [ha, k1, k2]
theorem IsTree.nodup {pl : List Nm} {ts : List Tie} (h : IsTree pl ts) : pl.Nodup := by
  obtain ⟨os, es, g, p, _⟩ := h
  exact p.nodup_iff.mpr g.nodup
theorem IsTree.len {pl : List Nm} {ts : List Tie} (h : IsTree pl ts) : pl.length = ts.length + 1 := by
  obtain ⟨os, es, g, p, q⟩ := h
  rw [p.length_eq, q.length_eq]
  exact g.len
theorem IsTree.ties {pl : List Nm} {ts : List Tie} (h : IsTree pl ts) : ∀ e ∈ ts, e.1 ∈ pl ∧ e.2.1 ∈ pl ∧ 1 ≤ e.2.2 ∧ e.2.2 ≤ 1000000 := by
  obtain ⟨os, es, g, p, q⟩ := h
  intro e he
  obtain ⟨a, b, c⟩ := g.ties e (q.mem_iff.mp he)
  exact ⟨p.mem_iff.mpr a, p.mem_iff.mpr b, c⟩

/-! ### as data -/
def tieD (t : Tie) : PyData := .tuple [.str (S t.1), .str (S t.2.1), .int t.2.2]
def strD (l : Nm) : PyData := .str (S l)
def treeD (pl : List Nm) (ts : List Tie) : PyData := .tuple [.tuple (pl.map strD), .tuple (ts.map tieD)]
/-- tuples stand as they stood -/
structure TK (H H' : Hp) : Prop where
  tup : ∀ b xs, H b = some (.tup xs) → H' b = some (.tup xs)
  frz : ∀ b o xs, H b = some (.frz o (.tup xs)) → H' b = some (.frz o (.tup xs))
theorem TK.refl (H : Hp) : TK H H := ⟨fun _ _ h => h, fun _ _ _ h => h⟩
theorem TK.trans {H H1 H2 : Hp} (a : TK H H1) (b : TK H1 H2) : TK H H2 := ⟨fun x o h => b.tup x o (a.tup x o h), fun x o u h => b.frz x o u (a.frz x o u h)⟩
theorem TK.of {H H' : Hp} (a : Same H H') : TK H H' := ⟨fun x _ h => a x _ h, fun x _ _ h => a x _ h⟩
theorem TK.new {H : Hp} {p : Addr} {o : HO} (n : H p = none) : TK H (upd H p o) :=
  ⟨fun b xs h => by rw [upd_ne (ne_of_none h n)]; exact h, fun b u xs h => by rw [upd_ne (ne_of_none h n)]; exact h⟩
theorem TK.mut {H : Hp} {p : Addr} {o : HO} {xs : List V} (n : H p = some (.lst xs)) : TK H (upd H p o) :=
  ⟨fun b ys h => by rw [upd_ne (ne_of h n (by intro z; cases z))]; exact h, fun b u ys h => by rw [upd_ne (ne_of h n (by intro z; cases z))]; exact h⟩
theorem SmX.tk {d : Addr} {H H' : Hp} {xs : List V} (s : SmX d H H') (n : H d = some (.lst xs)) : TK H H' :=
  ⟨fun b ys h => s b _ (ne_of h n (by intro z; cases z)) h, fun b u ys h => s b _ (ne_of h n (by intro z; cases z)) h⟩
theorem DeckAt.lst {H : Hp} {d c : Addr} {n : Nat} (h : DeckAt H d c n) : ∃ xs, H d = some (.lst xs) := by
  obtain ⟨_, _, _, _, _, h1, _⟩ := h
  exact ⟨_, h1⟩
theorem DeckAt.tk {H H' : Hp} {d c : Addr} {n : Nat} (h : DeckAt H d c n) (s : SmX d H H') : TK H H' := by
  obtain ⟨xs, e⟩ := h.lst
  exact s.tk e
mutual
/-- a value that never changes: none, truths, numbers, texts, tuples of such -/
inductive Dt (H : Hp) : V → PyData → Prop
  | non : Dt H .non .none
  | bl (b : Bool) : Dt H (.bl b) (.bool b)
  | int (i : Int) : Dt H (.int i) (.int i)
  | str (x : Str) : Dt H (.str x) (.str x)
  | tup {a : Addr} {xs : List V} {ds : List PyData} : H a = some (.tup xs) → DtAll H xs ds → Dt H (.ref a) (.tuple ds)
  /-- a tuple of texts that is known to have no dict of its own -/
  | tupZ {a : Addr} {pl : List Nm} {ds : List PyData} {o : Obj} : ds = pl.map strD → pl ≠ [] → o.dict = none → H a = some (.frz o (.tup ((pl.map S).map V.str))) → Dt H (.ref a) (.tuple ds)
inductive DtAll (H : Hp) : List V → List PyData → Prop
  | nil : DtAll H [] []
  | cons {v : V} {vs : List V} {d : PyData} {ds : List PyData} : Dt H v d → DtAll H vs ds → DtAll H (v :: vs) (d :: ds)
end
mutual
theorem Dt.keep {H H' : Hp} (t : TK H H') : ∀ {v : V} {d : PyData}, Dt H v d → Dt H' v d
  | _, _, .non => .non
  | _, _, .bl b => .bl b
  | _, _, .int i => .int i
  | _, _, .str x => .str x
  | _, _, .tup a b => .tup (t.tup _ _ a) (DtAll.keep t b)
  | _, _, .tupZ e n d a => .tupZ e n d (t.frz _ _ _ a)
theorem DtAll.keep {H H' : Hp} (t : TK H H') : ∀ {vs : List V} {ds : List PyData}, DtAll H vs ds → DtAll H' vs ds
  | _, _, .nil => .nil
  | _, _, .cons a b => .cons (Dt.keep t a) (DtAll.keep t b)
end
theorem dpa_strs {K : PySem.W.Frag} (H : Hp) : ∀ ls : List Nm, DpAll K H ((ls.map S).map V.str) (ls.map strD)
  | [] => .nil
  | _ :: r => .cons (.str _) (dpa_strs H r)
mutual
theorem Dt.dp {K : PySem.W.Frag} {H : Hp} : ∀ {v : V} {d : PyData}, Dt H v d → Dp K H v d
  | _, _, .non => .non
  | _, _, .bl b => .bl b
  | _, _, .int i => .int i
  | _, _, .str x => .str x
  | _, _, .tup a b => .tup (.inl (.inl a)) (DtAll.dp b)
  | _, _, .tupZ (pl := pl) (o := o) e _ _ a => e ▸ .tup (.inl (.inr ⟨o, a⟩)) (dpa_strs H pl)
theorem DtAll.dp {K : PySem.W.Frag} {H : Hp} : ∀ {vs : List V} {ds : List PyData}, DtAll H vs ds → DpAll K H vs ds
  | _, _, .nil => .nil
  | _, _, .cons a b => .cons (Dt.dp a) (DtAll.dp b)
end
theorem DtAll.len {H : Hp} : ∀ {vs : List V} {ds : List PyData}, DtAll H vs ds → vs.length = ds.length
  | _, _, .nil => rfl
  | _, _, .cons _ t => congrArg (· + 1) (DtAll.len t)
theorem DtAll.app {H : Hp} : ∀ {vs ws : List V} {ds es : List PyData}, DtAll H vs ds → DtAll H ws es → DtAll H (vs ++ ws) (ds ++ es)
  | _, _, _, _, .nil, h => h
  | _, _, _, _, .cons a t, h => .cons a (DtAll.app t h)
theorem DtAll.get {H : Hp} : ∀ {vs : List V} {ds : List PyData} {i : Nat} {v : V}, DtAll H vs ds → vs[i]? = some v → ∃ d, ds[i]? = some d ∧ Dt H v d
  | _, _, _, _, .nil, e => by simp at e
  | _, _, 0, _, .cons a _, e => by
    simp at e
    subst e
    exact ⟨_, rfl, a⟩
  | _, _, i + 1, _, .cons _ t, e => by
    obtain ⟨d, h1, h2⟩ := DtAll.get (i := i) t (by simpa using e)
    exact ⟨d, by simpa using h1, h2⟩
theorem DtAll.del {H : Hp} : ∀ {vs : List V} {ds : List PyData} (i : Nat), DtAll H vs ds → DtAll H (vs.eraseIdx i) (ds.eraseIdx i)
  | _, _, _, .nil => .nil
  | _, _, 0, .cons _ t => t
  | _, _, i + 1, .cons a t => .cons a (DtAll.del i t)
theorem DtAll.strs {H : Hp} : ∀ {ls : List Nm} {vs : List V}, DtAll H vs (ls.map strD) → vs = (ls.map S).map V.str
  | [], _, .nil => rfl
  | l :: r, _, .cons (.str _) t => by
    rw [DtAll.strs (ls := r) t]
    rfl
theorem dt_strs (H : Hp) : ∀ ls : List Nm, DtAll H ((ls.map S).map V.str) (ls.map strD)
  | [] => .nil
  | _ :: r => .cons (.str _) (dt_strs H r)
theorem perm_erase {α : Type} : ∀ {l : List α} {k : Nat} {x : α}, l[k]? = some x → (x :: l.eraseIdx k).Perm l
  | [], _, _, e => by simp at e
  | a :: r, 0, x, e => by
    simp at e
    subst e
    exact .refl _
  | a :: r, k + 1, x, e => by
    have ih := perm_erase (l := r) (k := k) (x := x) (by simpa using e)
    show (x :: a :: r.eraseIdx k).Perm (a :: r)
    exact (List.Perm.swap a x _).trans (ih.cons a)
theorem perm_pick {α : Type} {l1 l2 m : List α} {x : α} {k : Nat} (h : (l1 ++ l2).Perm m) (e : l2[k]? = some x) : ((l1 ++ [x]) ++ l2.eraseIdx k).Perm m := by
  rw [List.append_assoc]
  exact ((List.Perm.refl l1).append (perm_erase e)).trans h
theorem map_erase {α β : Type} (f : α → β) : ∀ (l : List α) (k : Nat), (l.map f).eraseIdx k = (l.eraseIdx k).map f
  | [], _ => rfl
  | _ :: _, 0 => rfl
  | a :: r, k + 1 => congrArg (f a :: ·) (map_erase f r k)
/-- a tuple of texts: of this heap, or one known through and through -/
def TupAt (H : Hp) (a : Addr) (xs : List V) : Prop := H a = some (.tup xs) ∨ ∃ o : Obj, o.dict = none ∧ H a = some (.frz o (.tup xs))
theorem TupAt.sq {K : PySem.W.Frag} {H : Hp} {a : Addr} {xs : List V} (h : TupAt H a xs) : SqT K H a xs := h.elim (fun h => .inl (.inl h)) fun ⟨o, _, h⟩ => .inl (.inr ⟨o, h⟩)
theorem TupAt.ne {H : Hp} {a p : Addr} {xs : List V} (h : TupAt H a xs) (n : H p = none) : a ≠ p := h.elim (fun h => ne_of_none h n) fun ⟨_, _, h⟩ => ne_of_none h n
theorem TupAt.same {H H' : Hp} {a : Addr} {xs : List V} (h : TupAt H a xs) (s : Same H H') : TupAt H' a xs := h.elim (fun h => .inl (s _ _ h)) fun ⟨o, d, h⟩ => .inr ⟨o, d, s _ _ h⟩
theorem TupAt.upd {H : Hp} {a p : Addr} {xs : List V} {o : HO} (h : TupAt H a xs) (n : H p = none) : TupAt (L2.upd H p o) a xs := h.elim (fun q => .inl (by rw [upd_ne (ne_of_none q n)]; exact q)) fun ⟨u, d, q⟩ => .inr ⟨u, d, by rw [upd_ne (ne_of_none q n)]; exact q⟩
theorem TupAt.updN {H : Hp} {a p : Addr} {xs : List V} {o : HO} (h : TupAt H a xs) (n : a ≠ p) : TupAt (L2.upd H p o) a xs := h.elim (fun q => .inl (by rw [upd_ne n]; exact q)) fun ⟨u, d, q⟩ => .inr ⟨u, d, by rw [upd_ne n]; exact q⟩
end Far

namespace Far
open PySem PySem.Spec PyProof.Rows L2
section
variable {X : Cx} {a o e : Expr} {ta to te : TE}
/-- tuple(xs) of a list, the new tuple known through and through -/
def tTupZ (K : PySem.W.Frag) (ta : TE) : TE := fun σ H Q => ta σ H fun x H1 => ∃ (l : Addr) (xs : List V), x = .ref l ∧ SqL K H1 l xs ∧ ∀ (p : Addr) (o : Obj), H1 p = none → o.dict = none → Q (.ref p) (upd H1 p (.frz o (.tup xs)))
theorem pe_tupleZ {p pos : Pos} (hg : Gl X "tuple") (hm : X.mg "tuple" = none) (ha : PE X a ta) (na : starEach [a] X.env = (false, eval a X.env) :: starEach [] X.env := by rfl) : PE X (.Call (.Name "tuple" p) [a] [] pos) (tTupZ X.K ta) := by
  refine ⟨fun pins s σ H Q I h => ?_⟩
  refine Call_ (ld_blt I hg hm bt_tuple (PyProof.Rows.callWith_type1 (one_arg ha I h (fun v s2 x H2 I2 r q => ?_) na) na))
  obtain ⟨l, xs, rfl, hq, q⟩ := q
  cases r
  obtain ⟨its, rv, pl, hz⟩ := I2.list hq
  refine call_tuple_list pl.isList (fun h' k => ?_) (by rw [List.size_toArray, ← rv.length]; exact hz)
  have I3 : Inv X pins σ H2 { s2 with heap := h' } := I2.kept (t' := s2.toks) k
  have new : (h'.push { cls := .type "tuple", data := .seq its.toArray }).get? h'.objs.size = some ({ cls := .type "tuple", data := .seq its.toArray } : Obj) := Heap.get?_push_size _ rfl
  exact ⟨.ref h'.objs.size, _, I3.laid (t' := s2.toks) (o := .frz { cls := .type "tuple", data := .seq its.toArray } (.tup xs)) (fun b o e => Heap.get?_push_of_some _ e) (Nat.le_refl _)
    (show ObjOk X.prog X.w _ _ _ (.frz _ (.tup xs)) from ⟨new, hz, its, rv, IsTup.new _ _⟩), rfl, q _ _ (I3.hok.fresh (Nat.le_refl _)) rfl⟩
/-- t.index(x), the first place, of a tuple of texts known through and through -/
def tIxZ (to te : TE) : TE := fun σ H Q => to σ H fun x H1 => ∃ (p : Addr) (ys : List Str) (u : Obj), x = .ref p ∧ u.dict = none ∧ H1 p = some (.frz u (.tup (ys.map V.str))) ∧ te σ H1 fun y H2 => H2 p = H1 p ∧ ∃ (z : Str) (j : Nat), y = .str z ∧ ys[j]? = some z ∧ (∀ m, m < j → ys[m]? ≠ some z) ∧ Q (.int (j : Nat)) H2
theorem pe_ixZ {apos cpos : Pos} (ho : PE X o to) (he : PE X e te) (hbase : attributeBase o "index" X.env (eval o X.env) = eval o X.env := by rfl)
    (hfew : ((backTo cpos (starEach [e] X.env)).all (fun x => !x.1) && (backToKw cpos (keywordEach [] X.env)).all (fun x => x.1.isSome)
      && decide ([e].length + ([] : List Keyword).length + (if ([] : List Keyword).isEmpty then 0 else 1) < 30)) = true := by rfl)
    (hline : (apos.endLine == cpos.line) = true := by rfl) (na : starEach [e] X.env = (false, eval e X.env) :: starEach [] X.env := by rfl) :
    PE X (.Call (.Attribute o "index" apos) [e] [] cpos) (tIxZ to te) := by
  refine ⟨fun pins s σ H Q I h => ?_⟩
  refine wpAny_Call_method_late hbase hfew hline rfl (thn (ho.run pins s σ H _ I h) fun v s1 ⟨x, H1, I1, r1, q1⟩ => ?_)
  obtain ⟨p, ys, u, rfl, hd, hp, q1⟩ := q1
  cases r1
  have fz : ObjOk X.prog X.w H1 s1.heap p (.frz u (.tup (ys.map V.str))) := I1.hok p _ hp
  obtain ⟨hu, hz, its, rv, it⟩ := fz
  refine ⟨"tuple", "tuple.index", PySem.F.plainAttrs_tuple, PySem.F.slot_tuple_index, PySem.F.type_tuple_index, it.typeIs, fun c e => by cases e; exact ⟨u, hu, hd⟩, ?_⟩
  have hA : wpAny (model X.prog X.w) X.A (spliced (backTo cpos (starEach [e] X.env))) (fun us s2 => wpAny (model X.prog X.w) X.A (call (.builtin "tuple.index") (.ref p :: us)) (EP X pins σ Q) X.xe s2) X.xe s1 :=
    one_arg he I1 q1 (fun y s2 x H2 I2 r2 q2 => by
      obtain ⟨same, z, j, rfl, hj, hno, q⟩ := q2
      exact mt_tup_index pins s2 σ H2 (.ref p) [.str z] (.ref p) [y] Q I2 rfl (.cons r2 .nil) ⟨p, ys, z, j, rfl, rfl, .inl (.inr ⟨u, same.trans hp⟩), hj, hno, q⟩) na
  rw [na] at hA ⊢
  exact Calls.callWith_builtin (by rfl) (Calls.evalArgs_plain hA)
end
end Far

namespace Far
open PySem PySem.Spec PyProof.Rows L2
open C8 (pss_cut tCut)
open SX (S)
abbrev s_law_tree : Stmt := topS 20
abbrev N_law_tree : List Str := ["deck", "most", "many", "names", "way", "long", "ties", "k", "some", "at", "length", "ends", "left", "places", "mixed"]
theorem sc_law_tree : FnScope N_law_tree ["deck", "most"] (defScope s_law_tree) := ⟨rfl, rfl, rfl, by decide +kernel, rfl, by decide +kernel, by decide +kernel⟩
section
variable {P : Program} {w : World} {K : PySem.W.Frag} {mg : Str → Option Value} {base : Heap}
/-- the tree's places stand as a tuple that is known through and through -/
def PlZ (H : Hp) (v : V) (pl : List Nm) : Prop := ∃ (t a b : Addr) (o : Obj), v = .ref t ∧ H t = some (.tup [.ref a, .ref b]) ∧ o.dict = none ∧ H a = some (.frz o (.tup ((pl.map S).map V.str)))
theorem PlZ.same {H H' : Hp} {v : V} {pl : List Nm} (h : PlZ H v pl) (s : Same H H') : PlZ H' v pl := by
  obtain ⟨t, a, b, o, e, h1, h2, h3⟩ := h
  exact ⟨t, a, b, o, e, s _ _ h1, h2, s _ _ h3⟩
theorem PlZ.keep {H H' : Hp} {v : V} {pl : List Nm} (h : PlZ H v pl) (s : TK H H') : PlZ H' v pl := by
  obtain ⟨t, a, b, o, e, h1, h2, h3⟩ := h
  exact ⟨t, a, b, o, e, s.tup _ _ h1, h2, s.frz _ _ _ h3⟩
def spTree (K : PySem.W.Frag) : Sp := fun vs H Q _ => ∃ (d c : Addr) (n : Nat) (most : Nat), vs = [.ref d, .int most] ∧ DeckAt H d c n ∧ n < 70000 ∧ 1 ≤ most ∧ most ≤ 30 ∧ ∀ (H' : Hp) (t : Addr) (pl : List Nm) (ts : List Tie), IsTree pl ts → (∀ l ∈ pl, NameOk l) → pl.length ≤ max most 4 → Dt H' (.ref t) (treeD pl ts) → PlZ H' (.ref t) pl → SmX d H H' → DeckAt H' d c (n + 800) → Q (.ref t) H'
/-- within the making of a tree: the names at p, the ties so far at t -/
structure Tr (K : PySem.W.Frag) (H H' : Hp) (d c p t : Addr) (n : Nat) (ls : List Nm) (tvs : List V) (ts : List Tie) : Prop where
  nm : NamesAt H' p ls
  tt : H' t = some (.lst tvs)
  al : DtAll H' tvs (ts.map tieD)
  sm : SmX d H H'
  dk : DeckAt H' d c n
theorem Tr.new {H H' : Hp} {d c p t q : Addr} {n : Nat} {ls : List Nm} {tvs : List V} {ts : List Tie} {o : HO} (x : Tr K H H' d c p t n ls tvs ts) (nq : H' q = none) : Tr K H (upd H' q o) d c p t n ls tvs ts :=
  ⟨by unfold NamesAt; rw [upd_ne (ne_of_none x.nm nq)]; exact x.nm, by rw [upd_ne (ne_of_none x.tt nq)]; exact x.tt, DtAll.keep (TK.new nq) x.al, x.sm.new nq, x.dk.new nq⟩
theorem Tr.step {H H' H'' : Hp} {d c p t : Addr} {n m : Nat} {ls : List Nm} {tvs : List V} {ts : List Tie} (x : Tr K H H' d c p t n ls tvs ts) (npd : p ≠ d) (ntd : t ≠ d) (s : SmX d H' H'') (D : DeckAt H'' d c m) : Tr K H H'' d c p t m ls tvs ts :=
  ⟨s p _ npd x.nm, s t _ ntd x.tt, DtAll.keep (x.dk.tk s) x.al, x.sm.trans s, D⟩
/-- another new object changes -/
theorem Tr.put {H H' : Hp} {d c p t q : Addr} {n : Nat} {ls : List Nm} {tvs xs : List V} {ts : List Tie} {o : HO} (x : Tr K H H' d c p t n ls tvs ts) (np : q ≠ p) (nt : q ≠ t) (nd : q ≠ d) (nc : q ≠ c) (n0 : H q = none) (hq : H' q = some (.lst xs)) : Tr K H (upd H' q o) d c p t n ls tvs ts :=
  ⟨by unfold NamesAt; rw [upd_ne np.symm]; exact x.nm, by rw [upd_ne nt.symm]; exact x.tt, DtAll.keep (TK.mut hq) x.al, x.sm.put n0, x.dk.put nd nc⟩
/-- a tie is taken -/
theorem Tr.take {H H' : Hp} {d c p t : Addr} {n k : Nat} {ls : List Nm} {tvs : List V} {ts : List Tie} (x : Tr K H H' d c p t n ls tvs ts) (np : p ≠ t) (nd : t ≠ d) (nc : t ≠ c) (n0 : H t = none) : Tr K H (upd H' t (.lst (tvs.eraseIdx k))) d c p t n ls (tvs.eraseIdx k) (ts.eraseIdx k) :=
  ⟨by unfold NamesAt; rw [upd_ne np]; exact x.nm, upd_same, by rw [← map_erase]; exact DtAll.del k (DtAll.keep (TK.mut x.tt) x.al), x.sm.put n0, x.dk.put nd nc⟩
theorem seq_ix {r : Int} {n : Nat} (h0 : 0 ≤ r) (h1 : r < n) : seqIndex? r n = some r.toNat := by
  refine (ixN_seq (j := r.toNat) ?_).1
  unfold ixN
  rw [if_pos h0, if_pos h1]
theorem ok_tree {f : Addr} {fd : FuncData} (F : Fun K "_law_tree" "_law_tree" s_law_tree f fd) (T : Txt mg) (C_law_next : Cal P w K mg base 2 "_law_next" spNext) (C_law_names : Cal P w K mg base 4 "_law_names" spNames) : FnOk P w K mg base CX0 5 f fd ["deck", "most"] (spTree K) := by
  refine F.ok sc_law_tree (fun vs H Q E h => ?_) (fun cdv A outer s H vs Q E hr h => ?_)
  · obtain ⟨d, c, n, most, rfl, _⟩ := h
    rfl
  · obtain ⟨d, c, n, most, rfl, hD, hn, hm1, hm, q⟩ := h
    refine ⟨_, (pss_cons (ps_set (i := 2) sc_law_tree.nd rfl (.inl rfl) (pe_ix ix_list (pe_lst (pa_cons (pe_op op_add pe_int (pe_c C_law_next hr (by decide) rfl (pa_cons (pv 0) (pa_cons (pv 1) pa_nil)))) (pa_cons (pv 1) (pa_cons (pe_op op_add pe_int (pe_c C_law_next hr (by decide) rfl (pa_cons (pv 0) (pa_cons pe_int pa_nil)))) pa_nil)))) (pe_c C_law_next hr (by decide) rfl (pa_cons (pv 0) (pa_cons pe_int pa_nil))) (fun _ _ => rfl)))
      (pss_cons (ps_set (i := 3) sc_law_tree.nd rfl (.inl rfl) (pe_c C_law_names hr (by decide) rfl (pa_cons (pv 0) (pa_cons (pv 2) pa_nil))))
      (pss_cons (ps_set (i := 4) sc_law_tree.nd rfl (.inl rfl) (pe_c C_law_next hr (by decide) rfl (pa_cons (pv 0) (pa_cons pe_int pa_nil))))
      (pss_cons (ps_set (i := 5) sc_law_tree.nd rfl (.inl rfl) (pe_c C_law_next hr (by decide) rfl (pa_cons (pv 0) (pa_cons pe_int pa_nil))))
      (pss_cons (ps_set (i := 6) sc_law_tree.nd rfl (.inr rfl) (pe_lst pa_nil))
      (pss_cut (ps_for PassesOwn.never rfl (pi_range2 (by rfl) T.range (pa_cons pe_int (pa_cons (pv 2) pa_nil))) (pg_name (i := 7) sc_law_tree.nd rfl (.inl rfl))
        (pss_cons (ps_set (i := 8) sc_law_tree.nd rfl (.inl rfl) (pe_lst (pa_cons (pe_op op_sub (pv 7) pe_int) (pa_cons pe_int (pa_cons (pe_c C_law_next hr (by decide) rfl (pa_cons (pv 0) (pa_cons (pv 7) pa_nil))) (pa_cons (pe_op op_fdiv (pe_op op_sub (pv 7) pe_int) pe_int) (pa_cons (pe_op op_sub (pe_op op_sub (pv 7) pe_int) (pe_callTy call_int1 (by rfl) T.int bt_int (pa_cons (pe_cmpR op_eq (pe_op op_mod (pv 7) pe_int) pe_int (nomark _)) pa_nil))) (pa_cons (pe_callB (call_max2 rfl) (by rfl) T.max bt_max (pa_cons pe_int (pa_cons (pe_op op_sub (pv 7) pe_int) pa_nil))) pa_nil))))))))
        (pss_cons (ps_set (i := 9) sc_law_tree.nd rfl (.inl rfl) (pe_ix ix_list (pv 8) (pv 4) (fun _ _ => rfl)))
        (pss_cons (ps_set (i := 10) sc_law_tree.nd rfl (.inl rfl) (pe_op op_add pe_int (pe_ix ix_list (pe_lst (pa_cons (pe_c C_law_next hr (by decide) rfl (pa_cons (pv 0) (pa_cons (pe_op op_pow pe_int pe_int) pa_nil))) (pa_cons pe_int (pa_cons (pe_c C_law_next hr (by decide) rfl (pa_cons (pv 0) (pa_cons pe_int pa_nil))) (pa_cons (pe_op op_sub (pe_op op_pow pe_int pe_int) pe_int) pa_nil))))) (pv 5) (fun _ _ => rfl))))
        (pss_cons (ps_set (i := 11) sc_law_tree.nd rfl (.inl rfl) (pe_ix ix_list (pe_lst (pa_cons (pe_tup (pa_cons (pe_ix ix_list (pv 3) (pv 9) (fun _ _ => rfl)) (pa_cons (pe_ix ix_list (pv 3) (pv 7) (fun _ _ => rfl)) pa_nil))) (pa_cons (pe_tup (pa_cons (pe_ix ix_list (pv 3) (pv 7) (fun _ _ => rfl)) (pa_cons (pe_ix ix_list (pv 3) (pv 9) (fun _ _ => rfl)) pa_nil))) pa_nil))) (pe_c C_law_next hr (by decide) rfl (pa_cons (pv 0) (pa_cons pe_int pa_nil))) (fun _ _ => rfl)))
        (pss_one (ps_expr (pe_bm PySem.F.plainAttrs_list PySem.F.slot_list_append PySem.F.type_list_append mt_append (pv 6) (pa_cons (pe_op op_catA (pv 11) (pe_tup (pa_cons (pv 10) pa_nil))) pa_nil)))))))))
      (pss_cons (ps_set (i := 12) sc_law_tree.nd rfl (.inr rfl) (pe_callTy call_list_of (by rfl) T.list bt_list (pa_cons (pv 3) pa_nil)))
      (pss_cons (ps_setLc (i := 13) (own := [("k", 7)]) (g := gName 7) (tt := tYes) rfl sc_law_tree.nd rfl rfl (sw_true rfl rfl rfl (by decide +kernel)) (pi_range1 (by rfl) T.range (pa_cons (pv 2) pa_nil)) (blkOk_by (N := N_law_tree) (sc := defScope s_law_tree) (by decide +kernel)) (fun _ _ _ _ _ => pg_name (i := 7) sc_law_tree.nd rfl (Or.inl rfl)) (fun _ _ _ _ _ => pts_nil) (fun _ _ _ _ _ => (show PE _ _ (tBM K "list" rPopAt _ _) from pe_bm PySem.F.plainAttrs_list PySem.F.slot_list_pop PySem.F.type_list_pop mt_popAt (pv 12) (pa_cons (pe_c C_law_next hr (by decide) rfl (pa_cons (pv 0) (pa_cons (pe_callB (lenK (K := K)) (by rfl) T.len bt_len (pa_cons (pv 12) pa_nil)) pa_nil))) pa_nil))))
      (pss_cons (ps_setLc (i := 14) (own := [("k", 7)]) (g := gName 7) (tt := tYes) rfl sc_law_tree.nd rfl rfl (sw_true rfl rfl rfl (by decide +kernel)) (pi_range1 (by rfl) T.range (pa_cons (pe_op op_sub (pv 2) pe_int) pa_nil)) (blkOk_by (N := N_law_tree) (sc := defScope s_law_tree) (by decide +kernel)) (fun _ _ _ _ _ => pg_name (i := 7) sc_law_tree.nd rfl (Or.inl rfl)) (fun _ _ _ _ _ => pts_nil) (fun _ _ _ _ _ => (show PE _ _ (tBM K "list" rPopAt _ _) from pe_bm PySem.F.plainAttrs_list PySem.F.slot_list_pop PySem.F.type_list_pop mt_popAt (pv 6) (pa_cons (pe_c C_law_next hr (by decide) rfl (pa_cons (pv 0) (pa_cons (pe_callB (lenK (K := K)) (by rfl) T.len bt_len (pa_cons (pv 6) pa_nil)) pa_nil))) pa_nil))))
      (pss_one (ps_ret (pe_tup (pa_cons (pe_tupleZ (by rfl) T.tuple (pe_ix ix_list (pe_lst (pa_cons (pv 13) (pa_cons (pv 3) pa_nil))) (pe_c C_law_next hr (by decide) rfl (pa_cons (pv 0) (pa_cons pe_int pa_nil))) (fun _ _ => rfl))) (pa_cons (pe_tupleOf (by rfl) T.tuple (pv 14)) pa_nil)))))))))))))), ?_⟩
    -- many
    refine ⟨_, rfl, _, rfl, d, c, n, most, rfl, hD, by omega, by omega, by omega, fun H1 r1 r10 r11 S1 D1 => ?_⟩
    refine ⟨_, _, rfl, rfl, _, rfl, _, rfl, d, c, _, 4, rfl, D1, by omega, by decide, by decide, fun H2 r2 r20 r21 S2 D2 => ?_⟩
    refine ⟨_, _, rfl, rfl, (by show 3 ≤ sizeLine; decide), fun p1 np1 => ?_⟩
    refine ⟨_, rfl, d, c, _, 3, rfl, D2.new np1, by omega, by decide, by decide, fun H3 r3 r30 r31 S3 D3 => ?_⟩
    have hp1 := S3 p1 _ (D2.nd np1) upd_same
    have SM3 : SmX d H H3 := ((S1.trans S2).new np1).trans S3
    obtain ⟨v, hv, mv⟩ := atI_in (xs := [V.int (1 + r1), .int most, .int (1 + r2)]) r30 (by simpa using r31)
    have hs : ∃ m : Nat, v = .int m ∧ 1 ≤ m ∧ m ≤ 30 ∧ m ≤ max most 4 := by
      simp only [List.mem_cons, List.not_mem_nil, or_false] at mv
      rcases mv with e | e | e
      · exact ⟨(1 + r1).toNat, by rw [e]; congr 1; omega, by omega, by omega, by omega⟩
      · exact ⟨most, e, by omega, by omega, by omega⟩
      · exact ⟨(1 + r2).toNat, by rw [e]; congr 1; omega, by omega, by omega, by omega⟩
    obtain ⟨many, rfl, m1, m30, mm⟩ := hs
    refine ⟨p1, _, r3, _, rfl, rfl, SqL.of hp1, hv, ?_⟩
    -- names
    refine ⟨_, rfl, _, rfl, d, c, _, many, rfl, D3, by omega, m30, fun H4 p ls np npd npc hN4 hl nd ok S4 D4 => ?_⟩
    have SM4 : SmX d H H4 := SM3.trans S4
    have np0 : H p = none := SM3.free np npd
    -- way, long
    refine ⟨_, rfl, d, c, _, 6, rfl, D4, by omega, by decide, by decide, fun H5 way w0 w1 S5 D5 => ?_⟩
    have hN5 : NamesAt H5 p ls := S5 p _ npd hN4
    refine ⟨_, rfl, d, c, _, 4, rfl, D5, by omega, by decide, by decide, fun H6 long g0 g1 S6 D6 => ?_⟩
    have hN6 : NamesAt H6 p ls := S6 p _ npd hN5
    have SM6 : SmX d H H6 := (SM4.trans S5).trans S6
    -- ties
    refine ⟨Nat.zero_le _, fun t nt => ?_⟩
    have ntd : t ≠ d := D6.nd nt
    have ntc : t ≠ c := D6.nc nt
    have ntp : p ≠ t := ne_of_none hN6 nt
    have nt0 : H t = none := SM6.free nt ntd
    have hk0 : 0 < ls.length := by omega
    -- the loop
    refine ⟨fun σ' H' => ∃ (x7 x8 x9 x10 x11 : Option V) (tvs : List V) (ts : List Tie), σ' = [some (.ref d), some (.int most), some (.int many), some (.ref p), some (.int way), some (.int long), some (.ref t), x7, x8, x9, x10, x11, none, none, none] ∧ Grown ls ts ∧ Tr K H H' d c p t (n + 726) ls tvs ts, ?_, fun σ' H' hM => ?_⟩
    · refine ⟨_, rfl, 1, many, rfl, ⟨by decide, by decide, by omega, by omega⟩, ?_⟩
      refine for_range (lo := 1) (n := ((many : Int) - 1).toNat) (fun i σ' H' => ∃ (x7 x8 x9 x10 x11 : Option V) (tvs : List V) (ts : List Tie), σ' = [some (.ref d), some (.int most), some (.int many), some (.ref p), some (.int way), some (.int long), some (.ref t), x7, x8, x9, x10, x11, none, none, none] ∧ Grown (ls.take (i + 1)) ts ∧ Tr K H H' d c p t (n + 605 + 4 * i) ls tvs ts) ⟨none, none, none, none, none, [], [], rfl, ?_, ?_, upd_same, .nil, SM6.new nt, (D6.new nt).mono (by omega)⟩ (fun i σ' H' hi hP => ?_) (fun σ' H' hP => ?_)
      · cases ls with
        | nil => exact absurd hk0 (by decide)
        | cons a r => exact Grown.one a
      · unfold NamesAt
        rw [upd_ne ntp]
        exact hN6
      · obtain ⟨x7, x8, x9, x10, x11, tvs, ts, rfl, hG, X0⟩ := hP
        have hi' : i + 1 < many := by omega
        -- some
        refine ⟨_, rfl, _, _, rfl, rfl, _, rfl, _, rfl, d, c, _, _, rfl, X0.dk, by omega, by omega, by omega, fun H7 a a0 a1 S7 D7 => ?_⟩
        have X7 := X0.step npd ntd S7 D7
        refine ⟨_, rfl, _, _, rfl, rfl, _, _, rfl, rfl, ⟨by decide, by decide⟩, _, rfl, _, _, rfl, rfl, _, rfl, _, _, rfl, rfl, (by show (0 : Int) < _; decide), rfl, .inr ⟨_, rfl, _, _, rfl, rfl, _, rfl, _, _, rfl, rfl, _, _, rfl, (by show 6 ≤ sizeLine; decide), fun p8 np8 => ?_⟩⟩
        have X8 := X7.new (o := .lst [V.int (1 + (i : Int) - 1), .int 0, .int a, .int ((1 + (i : Int) - 1) / 2), .int (1 + (i : Int) - 1 - if decide (V.int ((1 + (i : Int)) % 2) = V.int 0) = true then 1 else 0), .int (if 1 + (i : Int) - 2 > 0 then 1 + (i : Int) - 2 else 0)]) np8
        obtain ⟨v, hv, mv⟩ := atI_in (xs := [V.int (1 + (i : Int) - 1), .int 0, .int a, .int ((1 + (i : Int) - 1) / 2), .int (1 + (i : Int) - 1 - if decide (V.int ((1 + (i : Int)) % 2) = V.int 0) = true then 1 else 0), .int (if 1 + (i : Int) - 2 > 0 then 1 + (i : Int) - 2 else 0)]) w0 (by simpa using w1)
        have hs : ∃ m : Nat, v = .int m ∧ m < i + 1 := by
          simp only [List.mem_cons, List.not_mem_nil, or_false] at mv
          rcases mv with e | e | e | e | e | e
          · exact ⟨i, by rw [e]; congr 1; omega, by omega⟩
          · exact ⟨0, e, by omega⟩
          · exact ⟨a.toNat, by rw [e]; congr 1; omega, by omega⟩
          · exact ⟨i / 2, by rw [e]; congr 1; omega, by omega⟩
          · by_cases z : (1 + (i : Int)) % 2 = 0
            · rw [z, if_pos (by decide)] at e
              exact ⟨i - 1, by rw [e]; congr 1; omega, by omega⟩
            · rw [if_neg (fun y => z (V.int.inj (of_decide_eq_true y)))] at e
              exact ⟨i, by rw [e]; congr 1; omega, by omega⟩
          · by_cases z : 1 + (i : Int) - 2 > 0
            · rw [if_pos z] at e
              exact ⟨i - 1, by rw [e]; congr 1; omega, by omega⟩
            · rw [if_neg z] at e
              exact ⟨0, e, by omega⟩
        obtain ⟨at', rfl, hat⟩ := hs
        refine ⟨_, rfl, _, rfl, p8, _, way, _, rfl, rfl, SqL.of upd_same, hv, ?_⟩
        -- length
        refine ⟨_, rfl, _, _, rfl, rfl, ⟨by decide, by decide, by decide⟩, d, c, _, _, rfl, X8.dk, by omega, by decide, by decide, fun H9 u u0 u1 S9 D9 => ?_⟩
        have X9 := X8.step npd ntd S9 D9
        refine ⟨_, rfl, d, c, _, 3, rfl, X9.dk, by omega, by decide, by decide, fun H10 u' u0' u1' S10 D10 => ?_⟩
        have X10 := X9.step npd ntd S10 D10
        refine ⟨_, _, rfl, rfl, ⟨by decide, by decide, by decide⟩, _, _, rfl, rfl, (by show 4 ≤ sizeLine; decide), fun p9 np9 => ?_⟩
        have X11 := X10.new (o := .lst [V.int u, .int 0, .int u', .int (10 ^ (6 : Int).toNat - 1)]) np9
        obtain ⟨v, hv, mv⟩ := atI_in (xs := [V.int u, .int 0, .int u', .int (10 ^ (6 : Int).toNat - 1)]) g0 (by simpa using g1)
        have hs : ∃ m : Int, v = .int m ∧ 0 ≤ m ∧ m < 1000000 := by
          have e6 : (10 : Int) ^ (6 : Int).toNat = 1000000 := by decide
          rw [e6] at mv u1
          simp only [List.mem_cons, List.not_mem_nil, or_false] at mv
          rcases mv with e | e | e | e
          · exact ⟨u, e, u0, u1⟩
          · exact ⟨0, e, by omega, by omega⟩
          · exact ⟨u', e, by omega, by omega⟩
          · exact ⟨999999, e, by omega, by omega⟩
        obtain ⟨lg, rfl, lg0, lg1⟩ := hs
        refine ⟨_, rfl, p9, _, long, _, rfl, rfl, SqL.of upd_same, hv, _, _, rfl, rfl, ?_⟩
        -- ends
        have la : at' < ls.length := by omega
        have lk : i + 1 < ls.length := by omega
        have ga : ((ls.map S).map V.str)[at']? = some (.str (S ls[at'])) := by
          rw [List.getElem?_map, List.getElem?_map, List.getElem?_eq_getElem la]
          rfl
        have gk : ((ls.map S).map V.str)[i + 1]? = some (.str (S ls[i + 1])) := by
          rw [List.getElem?_map, List.getElem?_map, List.getElem?_eq_getElem lk]
          rfl
        have ek : 1 + (i : Int) = ((i + 1 : Nat) : Int) := by omega
        refine ⟨_, rfl, _, rfl, p, _, at', _, rfl, rfl, SqL.of X11.nm, atI_nat ga, _, rfl, _, rfl, p, _, 1 + (i : Int), _, rfl, rfl, SqL.of X11.nm, at_of ek gk, (by show 2 ≤ sizeLine; decide), fun e1 ne1 => ?_⟩
        have X12 := X11.new (o := .tup [.str (S ls[at']), .str (S ls[i + 1])]) ne1
        refine ⟨_, rfl, _, rfl, p, _, 1 + (i : Int), _, rfl, rfl, SqL.of X12.nm, at_of ek gk, _, rfl, _, rfl, p, _, at', _, rfl, rfl, SqL.of X12.nm, atI_nat ga, (by show 2 ≤ sizeLine; decide), fun e2 ne2 => ?_⟩
        have X13 := X12.new (o := .tup [.str (S ls[i + 1]), .str (S ls[at'])]) ne2
        refine ⟨(by show 2 ≤ sizeLine; decide), fun p10 np10 => ?_⟩
        have X14 := X13.new (o := .lst [.ref e1, .ref e2]) np10
        refine ⟨_, rfl, d, c, _, 2, rfl, X14.dk, by omega, by decide, by decide, fun H15 b b0 b1 S15 D15 => ?_⟩
        have X15 := X14.step npd ntd S15 D15
        have h1 : H15 e1 = some (.tup [.str (S ls[at']), .str (S ls[i + 1])]) := S15 e1 _ (X11.dk.nd ne1) (by rw [upd_ne (ne_of_none (by rw [upd_ne (ne_of_none upd_same ne2)]; exact upd_same) np10), upd_ne (ne_of_none upd_same ne2)]; exact upd_same)
        have h2 : H15 e2 = some (.tup [.str (S ls[i + 1]), .str (S ls[at'])]) := S15 e2 _ (X12.dk.nd ne2) (by rw [upd_ne (ne_of_none upd_same np10)]; exact upd_same)
        have h3 : H15 p10 = some (.lst [.ref e1, .ref e2]) := S15 p10 _ (X13.dk.nd np10) upd_same
        obtain ⟨v, hv, mv⟩ := atI_in (xs := [V.ref e1, .ref e2]) b0 (by simpa using b1)
        have hs : ∃ (e : Addr) (xa xb : Nm), v = .ref e ∧ H15 e = some (.tup [.str (S xa), .str (S xb)]) ∧ ((xa = ls[at'] ∧ xb = ls[i + 1]) ∨ (xa = ls[i + 1] ∧ xb = ls[at'])) := by
          simp only [List.mem_cons, List.not_mem_nil, or_false] at mv
          rcases mv with e | e
          · exact ⟨e1, _, _, e, h1, .inl ⟨rfl, rfl⟩⟩
          · exact ⟨e2, _, _, e, h2, .inr ⟨rfl, rfl⟩⟩
        obtain ⟨e, xa, xb, rfl, he, hab⟩ := hs
        refine ⟨p10, _, b, _, rfl, rfl, SqL.of h3, hv, ?_⟩
        -- ties.append(ends + (length,))
        refine ⟨_, rfl, .inl ⟨rfl, _, SqL.of X15.tt⟩, _, rfl, _, rfl, (by show 1 ≤ sizeLine; decide), fun e3 ne3 => ?_⟩
        have X16 := X15.new (o := .tup [.int (1 + lg)]) ne3
        refine ⟨e, e3, [.str (S xa), .str (S xb)], [.int (1 + lg)], rfl, rfl, .inl (.inl (by rw [upd_ne (ne_of_none he ne3)]; exact he)), .inl (.inl upd_same), (by show 3 ≤ sizeLine; decide), (fun z => nomatch z), (fun _ z => nomatch z), fun _ _ e4 ne4 => ?_⟩
        have X17 := X16.new (o := .tup ([.str (S xa), .str (S xb)] ++ [.int (1 + lg)])) ne4
        have tl : tvs.length = ts.length := by
          have := DtAll.len X17.al
          rwa [List.length_map] at this
        have gl := hG.len
        rw [List.length_take] at gl
        refine ⟨t, tvs, _, rfl, rfl, X17.tt, sz_lt (by omega), ?_⟩
        refine ⟨_, _, _, _, _, tvs ++ [.ref e4], ts ++ [(xa, xb, 1 + lg)], rfl, ?_, ?_, upd_same, ?_, X17.sm.put nt0, (X17.dk.put ntd ntc).mono (by omega)⟩
        · have e5 : ls.take (i + 1 + 1) = ls.take (i + 1) ++ [ls[i + 1]] := by
            rw [List.take_add_one, List.getElem?_eq_getElem lk]
            rfl
          rw [e5]
          refine Grown.leaf (a := ls[at']) (k := 1 + lg) hG ?_ ?_ ?_ (by omega) (by omega)
          · exact List.mem_take_iff_getElem.mpr ⟨at', by omega, rfl⟩
          · intro hm
            obtain ⟨j, hj, ej⟩ := List.mem_take_iff_getElem.mp hm
            have := (List.getElem_inj nd).mp ej
            omega
          · rcases hab with ⟨z1, z2⟩ | ⟨z1, z2⟩ <;> rw [z1, z2]
            · exact .inl rfl
            · exact .inr rfl
        · unfold NamesAt
          rw [upd_ne ntp]
          exact X17.nm
        · rw [List.map_append]
          have tk : TK (upd (upd H15 e3 (.tup [.int (1 + lg)])) e4 (.tup ([.str (S xa), .str (S xb)] ++ [.int (1 + lg)]))) (upd (upd (upd H15 e3 (.tup [.int (1 + lg)])) e4 (.tup ([.str (S xa), .str (S xb)] ++ [.int (1 + lg)]))) t (.lst (tvs ++ [.ref e4]))) := TK.mut X17.tt
          refine DtAll.app (DtAll.keep tk X17.al) (.cons (.tup (tk.tup _ _ upd_same) (.cons (.str _) (.cons (.str _) (.cons (.int _) .nil)))) .nil)
      · obtain ⟨x7, x8, x9, x10, x11, tvs, ts, rfl, hG, X0⟩ := hP
        refine ⟨_, _, _, _, _, tvs, ts, rfl, ?_, X0.nm, X0.tt, X0.al, X0.sm, X0.dk.mono (by omega)⟩
        have : ls.take (((many : Int) - 1).toNat + 1) = ls := List.take_of_length_le (by omega)
        rwa [this] at hG
    · obtain ⟨x7, x8, x9, x10, x11, tvs, ts, rfl, hG, X0⟩ := hM
      -- left
      refine ⟨_, rfl, p, _, rfl, .inl (SqL.of X0.nm), fun lf nlf => ?_⟩
      have X1 := X0.new (o := .lst ((ls.map S).map V.str)) nlf
      have lfd := X0.dk.nd nlf
      have lfc := X0.dk.nc nlf
      have lf0 : H lf = none := X0.sm.free nlf lfd
      have lfp : lf ≠ p := (ne_of_none X0.nm nlf).symm
      have lft : lf ≠ t := (ne_of_none X0.tt nlf).symm
      -- places
      refine ⟨_, rfl, (many : Int), rfl, by omega, by omega, fun D nD => ?_⟩
      have Dd := X1.dk.nd nD
      have Dc := X1.dk.nc nD
      have D0 : H D = none := X1.sm.free nD Dd
      have Dp' : D ≠ p := (ne_of_none X1.nm nD).symm
      have DNt : D ≠ t := (ne_of_none X1.tt nD).symm
      have Dlf : D ≠ lf := (ne_of_none upd_same nD).symm
      refine lc_range (lo := 0) (n := (many : Int).toNat) (fun i H'' => ∃ l1 l2 : List Nm, l1.length = i ∧ (l1 ++ l2).Perm ls ∧ H'' D = some (.lst ((l1.map S).map V.str)) ∧ H'' lf = some (.lst ((l2.map S).map V.str)) ∧ Tr K H H'' d c p t (n + 726 + i) ls tvs ts)
        ⟨[], ls, rfl, List.Perm.refl _, upd_same, by rw [upd_ne Dlf.symm]; exact upd_same, X1.new nD⟩ (fun i H'' hi hP => ?_) (fun H'' hP => ?_)
      · obtain ⟨l1, l2, hl1, pm, hD, hlf, X2⟩ := hP
        have ll := pm.length_eq
        rw [List.length_append] at ll
        refine ⟨rfl, _, rfl, .inl ⟨rfl, _, SqL.of hlf⟩, _, rfl, _, rfl, .ref lf, _, rfl, .inl ⟨_, SqL.of hlf, rfl⟩, d, c, _, _, rfl, X2.dk, by omega, by rw [List.length_map, List.length_map]; omega, by rw [List.length_map, List.length_map]; omega, fun H3 r r0 r1 S3 D3 => ?_⟩
        have X3 := X2.step npd ntd S3 D3
        have hD3 := S3 D _ Dd hD
        have hlf3 := S3 lf _ lfd hlf
        rw [List.length_map, List.length_map] at r1
        have hx : l2[r.toNat]? = some (l2[r.toNat]'(by omega)) := List.getElem?_eq_getElem (by omega)
        generalize l2[r.toNat]'(by omega) = x at hx
        have hx' : ((l2.map S).map V.str)[r.toNat]? = some (.str (S x)) := by
          rw [List.getElem?_map, List.getElem?_map, hx]
          rfl
        refine ⟨lf, _, r, r.toNat, .str (S x), rfl, rfl, hlf3, by omega, by omega, seq_ix r0 (by rw [List.length_map, List.length_map]; exact r1), hx', ?_⟩
        have X4 := X3.put (o := .lst (((l2.map S).map V.str).eraseIdx r.toNat)) lfp lft lfd lfc lf0 hlf3
        have hD4 : (upd H3 lf (.lst (((l2.map S).map V.str).eraseIdx r.toNat))) D = some (.lst ((l1.map S).map V.str)) := by
          rw [upd_ne Dlf]
          exact hD3
        refine ⟨_, hD4, by rw [List.length_map, List.length_map]; exact sz_lt (by omega), l1 ++ [x], l2.eraseIdx r.toNat, by rw [List.length_append, hl1]; rfl, perm_pick pm hx, ?_, ?_, X4.put Dp' DNt Dd Dc D0 hD4⟩
        · rw [upd_same, List.map_append, List.map_append]
          rfl
        · rw [upd_ne Dlf.symm, upd_same, map_erase, map_erase]
      · obtain ⟨l1, l2, hl1, pm, hD, hlf, X2⟩ := hP
        have ll := pm.length_eq
        rw [List.length_append] at ll
        have e2 : l2 = [] := List.length_eq_zero_iff.mp (by omega)
        subst e2
        rw [List.append_nil] at pm
        have gl := hG.len
        -- mixed
        refine ⟨_, rfl, _, _, rfl, rfl, (many : Int) - 1, rfl, by omega, by omega, fun G nG => ?_⟩
        have Gd := X2.dk.nd nG
        have Gc := X2.dk.nc nG
        have G0 : H G = none := X2.sm.free nG Gd
        have Gp : G ≠ p := (ne_of_none X2.nm nG).symm
        have Gt : G ≠ t := (ne_of_none X2.tt nG).symm
        have GD : G ≠ D := (ne_of_none hD nG).symm
        refine lc_range (lo := 0) (n := ((many : Int) - 1).toNat) (fun i H'' => ∃ (ts1 ts2 : List Tie) (vs1 vs2 : List V), ts1.length = i ∧ (ts1 ++ ts2).Perm ts ∧ H'' D = some (.lst ((l1.map S).map V.str)) ∧ H'' G = some (.lst vs1) ∧ DtAll H'' vs1 (ts1.map tieD) ∧ Tr K H H'' d c p t (n + 756 + i) ls vs2 ts2)
          ⟨[], ts, [], tvs, rfl, List.Perm.refl _, by rw [upd_ne GD.symm]; exact hD, upd_same, .nil, ?_⟩ (fun i H3 hi hP => ?_) (fun H3 hP => ?_)
        · have := X2.new (o := .lst []) nG
          exact ⟨this.nm, this.tt, this.al, this.sm, this.dk.mono (by omega)⟩
        · obtain ⟨ts1, ts2, vs1, vs2, hl1', pm', hD3, hG3, hA3, X3⟩ := hP
          have ll' := pm'.length_eq
          rw [List.length_append] at ll'
          have v2 : vs2.length = ts2.length := by
            have := DtAll.len X3.al
            rwa [List.length_map] at this
          have v1 : vs1.length = ts1.length := by
            have := DtAll.len hA3
            rwa [List.length_map] at this
          refine ⟨rfl, _, rfl, .inl ⟨rfl, _, SqL.of X3.tt⟩, _, rfl, _, rfl, .ref t, _, rfl, .inl ⟨_, SqL.of X3.tt, rfl⟩, d, c, _, _, rfl, X3.dk, by omega, by omega, by omega, fun H4 r r0 r1 S4 D4 => ?_⟩
          have X4 := X3.step npd ntd S4 D4
          have hD4 := S4 D _ Dd hD3
          have hG4 := S4 G _ Gd hG3
          have hA4 := DtAll.keep (X3.dk.tk S4) hA3
          have hy : vs2[r.toNat]? = some (vs2[r.toNat]'(by omega)) := List.getElem?_eq_getElem (by omega)
          generalize vs2[r.toNat]'(by omega) = y at hy
          obtain ⟨dy, hdy, hDy⟩ := DtAll.get X4.al hy
          have hx : ts2[r.toNat]? = some (ts2[r.toNat]'(by omega)) := List.getElem?_eq_getElem (by omega)
          generalize ts2[r.toNat]'(by omega) = x at hx
          have edy : dy = tieD x := by
            rw [List.getElem?_map, hx] at hdy
            exact (Option.some.inj hdy).symm
          subst edy
          refine ⟨t, _, r, r.toNat, y, rfl, rfl, X4.tt, by omega, by omega, seq_ix r0 r1, hy, ?_⟩
          have X5 := X4.take (k := r.toNat) ntp ntd ntc nt0
          have hG5 : (upd H4 t (.lst (vs2.eraseIdx r.toNat))) G = some (.lst vs1) := by
            rw [upd_ne Gt]
            exact hG4
          have hD5 : (upd H4 t (.lst (vs2.eraseIdx r.toNat))) D = some (.lst ((l1.map S).map V.str)) := by
            rw [upd_ne DNt]
            exact hD4
          have tk : TK H4 (upd (upd H4 t (.lst (vs2.eraseIdx r.toNat))) G (.lst (vs1 ++ [y]))) := (TK.mut X4.tt).trans (TK.mut hG5)
          refine ⟨_, hG5, sz_lt (by omega), ts1 ++ [x], ts2.eraseIdx r.toNat, vs1 ++ [y], vs2.eraseIdx r.toNat, by rw [List.length_append, hl1']; rfl, perm_pick pm' hx, by rw [upd_ne GD.symm]; exact hD5, upd_same, ?_, X5.put Gp Gt Gd Gc G0 hG5⟩
          rw [List.map_append]
          exact DtAll.app (DtAll.keep tk hA4) (.cons (Dt.keep tk hDy) .nil)
        · obtain ⟨ts1, ts2, vs1, vs2, hl1', pm', hD3, hG3, hA3, X3⟩ := hP
          have ll' := pm'.length_eq
          rw [List.length_append] at ll'
          have e2 : ts2 = [] := List.length_eq_zero_iff.mp (by omega)
          subst e2
          rw [List.append_nil] at pm'
          -- return
          refine ⟨_, rfl, _, rfl, (by show 2 ≤ sizeLine; decide), fun p20 np20 => ?_⟩
          have X4 := X3.new (o := .lst [.ref D, .ref p]) np20
          refine ⟨_, rfl, d, c, _, 2, rfl, X4.dk, by omega, by decide, by decide, fun H5 b b0 b1 S5 D5 => ?_⟩
          have X5 := X4.step npd ntd S5 D5
          have hD5 : H5 D = some (.lst ((l1.map S).map V.str)) := S5 D _ Dd (by rw [upd_ne (ne_of_none hD3 np20)]; exact hD3)
          have hG5 : H5 G = some (.lst vs1) := S5 G _ Gd (by rw [upd_ne (ne_of_none hG3 np20)]; exact hG3)
          have hA5 : DtAll H5 vs1 (ts1.map tieD) := DtAll.keep ((TK.new np20).trans (X4.dk.tk S5)) hA3
          obtain ⟨v, hv, mv⟩ := atI_in (xs := [V.ref D, .ref p]) b0 (by simpa using b1)
          have hs : ∃ (e : Addr) (pl : List Nm), v = .ref e ∧ H5 e = some (.lst ((pl.map S).map V.str)) ∧ pl.Perm ls := by
            simp only [List.mem_cons, List.not_mem_nil, or_false] at mv
            rcases mv with e | e
            · exact ⟨D, l1, e, hD5, pm⟩
            · exact ⟨p, ls, e, X5.nm, List.Perm.refl _⟩
          obtain ⟨e, pl, rfl, he, hpl⟩ := hs
          refine ⟨p20, _, b, _, rfl, rfl, SqL.of (S5 p20 _ (X3.dk.nd np20) upd_same), hv, e, _, rfl, SqL.of he, fun q1 o nq1 od => ?_⟩
          have X6 := X5.new (o := .frz o (.tup ((pl.map S).map V.str))) nq1
          refine ⟨_, rfl, .inl ⟨G, vs1, rfl, SqL.of (by rw [upd_ne (ne_of_none hG5 nq1)]; exact hG5), fun q2 nq2 => ?_⟩⟩
          have X7 := X6.new (o := .tup vs1) nq2
          refine ⟨(by show 2 ≤ sizeLine; decide), fun q3 nq3 => ?_⟩
          have X8 := X7.new (o := .tup [.ref q1, .ref q2]) nq3
          have tk1 : TK (upd H5 q1 (.frz o (.tup ((pl.map S).map V.str)))) (upd (upd (upd H5 q1 (.frz o (.tup ((pl.map S).map V.str)))) q2 (.tup vs1)) q3 (.tup [.ref q1, .ref q2])) := (TK.new nq2).trans (TK.new nq3)
          have tk2 : TK (upd (upd H5 q1 (.frz o (.tup ((pl.map S).map V.str)))) q2 (.tup vs1)) (upd (upd (upd H5 q1 (.frz o (.tup ((pl.map S).map V.str)))) q2 (.tup vs1)) q3 (.tup [.ref q1, .ref q2])) := TK.new nq3
          have tk0 : TK H5 (upd (upd (upd H5 q1 (.frz o (.tup ((pl.map S).map V.str)))) q2 (.tup vs1)) q3 (.tup [.ref q1, .ref q2])) := (TK.new nq1).trans tk1
          have it : IsTree pl ts1 := ⟨ls, ts, hG, hpl, pm'⟩
          have plne : pl ≠ [] := fun z => by
            have := it.len
            rw [z] at this
            simp at this
          refine q _ q3 pl ts1 it (fun l hl => ok l (hpl.mem_iff.mp hl)) (by rw [hpl.length_eq]; omega) (.tup upd_same (.cons (.tupZ rfl plne od (tk1.frz _ _ _ upd_same)) (.cons (.tup (tk2.tup _ _ upd_same) (DtAll.keep tk0 hA5)) .nil))) ⟨q3, q1, q2, o, rfl, upd_same, od, tk1.frz _ _ _ upd_same⟩ X8.sm (X8.dk.mono (by omega))
end
end Far

namespace Far
open PySem PySem.Spec PyProof.Rows L2
section
variable {X : Cx}
theorem countU {x : V} : ∀ {ys : List V} {us : List Value}, Vals ys us → ys.all flatV = true → us.countP (eqU x) = ys.countP (fun y => eqV y x)
  | _, _, .nil, _ => rfl
  | y :: ys, u :: us, .cons r t, f => by
    rw [List.all_cons, Bool.and_eq_true] at f
    rw [List.countP_cons, List.countP_cons, eqU_of r f.1, countU t f.2]
/-- list.count of a flat value in a list of flat values -/
def rCountV (K : PySem.W.Frag) : V → List V → Hp → VK → Prop := fun x xs H Q => ∃ (p : Addr) (ys : List V) (y : V), x = .ref p ∧ xs = [y] ∧ SqL K H p ys ∧ flatV y = true ∧ ys.all flatV = true ∧ Q (.int (ys.countP (fun z => eqV z y) : Nat)) H
theorem mt_countV {K : PySem.W.Frag} (eK : X.K = K := by rfl) : MtR X "list.count" (rCountV K) := by
  subst eK
  intro pins s σ H x xs v us Q I rx rxs h
  obtain ⟨p, ys, y, rfl, rfl, hs, fy, fys, q⟩ := h
  cases rx
  obtain ⟨u, rfl, ru⟩ := rxs.one
  obtain ⟨its, rv, ⟨⟨cl, di, da, so⟩, n, ho, hc, hdn, hd⟩, hl⟩ := I.list hs
  simp only at hc hd
  subst hc hd
  refine call_meets PySem.F.slot_list_count ⟨_, ho, rfl⟩ PySem.F.entry_list_count (PySem.F.args_list_count_2 _ _) (SeqAt.list_countAt p its.toArray n di so u (eqU y)) ⟨ho, fun z hz => mem_eqAt ru fy rv fys z (by simpa using hz), ?_⟩
  refine ⟨.int (ys.countP (fun z => eqV z y) : Nat), H, I.tok _, ⟨s.toks, ?_⟩, q⟩
  have e : its.toArray.toList.countP (eqU y) = ys.countP (fun z => eqV z y) := countU rv fys
  rw [e]

/-! ### enumerate(xs, start=c) -/
theorem callWith_typeK {M : Model} {A : Around} {E : Value → Shared → Prop} {s : Shared} {pos : Pos} {T : String} {env : Env} {e : Expr} {rest : List Expr} {kws : List Keyword} {Q : Value → Shared → Prop}
    (h : wpAny M A (spliced (backTo pos (starEach (e :: rest) env))) (fun vs s1 => wpAny M A (evalAll ((backToKw pos (keywordEach kws env)).map (·.2)))
      (fun ws s2 => wpAny M A (call (.type T) vs (((backToKw pos (keywordEach kws env)).filterMap (·.1)).zip ws)) Q E s2) E s1) E s)
    (he : backTo pos (starEach (e :: rest) env) = (false, eval e env) :: backTo pos (starEach rest env) := by rfl)
    (hp : (backTo pos (starEach (e :: rest) env)).any (·.1) = false := by rfl)
    (ha : (backToKw pos (keywordEach kws env)).all (·.1.isSome) = true := by rfl)
    (hk : (backToKw pos (keywordEach kws env)).any (·.1.isNone) = false := by rfl) :
    wpAny M A (callWith pos (.type T) [] (backTo pos (starEach (e :: rest) env)) (backToKw pos (keywordEach kws env))) Q E s := by
  unfold callWith
  refine wpAny_bind (wpAny_holding (wpAny_mono (Q := fun a s1 => wpAny M A (call (.type T) ([] ++ a.pos) a.kw) Q E s1) ?_ (fun a s1 h1 => wpAny_bind (wpAny_standAt ?_)) fun _ _ x => x))
  · rw [he] at h ⊢
    exact evalArgs_kwB ha h
  · simp only [hp, hk, Bool.or_false]
    exact wpAny_bind (wpAny_pure (wpAny_bind (wpAny_mono h1 (fun r s2 hr => wpAny_bind (wpAny_holding (wpAny_point (wpAny_pure hr)))) fun _ _ x => x)))
/-- the pairs (c + i, item) of the list at a as it stands at each turn -/
def Ites (K : PySem.W.Frag) (a : Addr) (c : Int) : It :=
  ⟨fun i H => ∃ (xs : List V) (x : V), SqL K H a xs ∧ xs[i]? = some x,
   fun i H v H' => ∃ T x, v = .ref T ∧ H T = none ∧ H' = upd H T (.tup [.int (c + (i : Nat)), x]) ∧ ∀ xs, SqL K H a xs → xs[i]? = some x,
   fun i H => ∃ xs : List V, SqL K H a xs ∧ xs.length ≤ i⟩
theorem turn_enumS {P : Program} {w : World} {K : PySem.W.Frag} {elts : List Expr} {kk : Nat} {tpos : Pos} (a e it : Addr) (c : Int) :
    Turn P w K (.Tuple elts kk tpos) (Ites K a c) [e, it] e (fun i h => (∃ o, IsEnum h e it (c + ((i : Nat) : Int)) o) ∧ h.IsListIter it a i ∧ e ≠ it ∧ a ≠ it) where
  mem := by simp
  obj := fun i h st b hb => by
    obtain ⟨⟨o', he⟩, ⟨o, ho, hc, hd⟩, _⟩ := st
    rcases (show b = e ∨ b = it by simpa using hb) with rfl | rfl
    · exact ⟨_, he, fun v q => nomatch q⟩
    · exact ⟨o, ho, fun v q => by rw [hd] at q; cases q⟩
  keep := fun i h h' ⟨⟨o, he⟩, hi, hne⟩ k => ⟨⟨o, k e (by simp) _ he⟩, hi.at fun o q => k it (by simp) o q, hne⟩
  item := by
    intro X hP hw hK hc i pins s σ H E I hf st hg
    subst hP hw hK
    obtain ⟨⟨old, he⟩, hit, hne, hna⟩ := st
    obtain ⟨xs, x, hq, hx⟩ := hg
    obtain ⟨its, rv, p, hz⟩ := I.list hq
    obtain ⟨u, hu, ru⟩ := rv.get hx
    have hel : e < s.heap.objs.size := Heap.lt_size he
    have hil : it < s.heap.objs.size := by
      obtain ⟨_, q, _⟩ := hit
      exact Heap.lt_size q
    have hea : e ∉ [it, a] := by
      intro hm
      rcases List.mem_cons.mp hm with z | z
      · exact hne z
      · have z := List.mem_singleton.mp z
        obtain ⟨o, m, q, _⟩ := p.isList
        rw [← z, he] at m
        cases m
        have q : Value.type "enumerate" = Value.type "list" := q
        exact absurd q (by decide)
    have hlt : i < its.toArray.size := by
      have := (List.getElem?_eq_some_iff.mp hu).1
      simpa using this
    refine wpAny_pyNext_enum_itemC (Draws.list (A := X.A.in1) (I.ok.hd hc) it a hna its.toArray) he ⟨hit, p.isList⟩ hlt hne hea fun x' h' tk hx' ho hst' hT hsz hk => ?_
    have ex : x' = u := by
      have : its.toArray[i]? = some u := by simpa using hu
      exact Option.some.inj (hx'.symm.trans this)
    subst ex
    refine ⟨_, rfl, wpAny_letOwnedTupleGo_enum (s := { s with heap := h', toks := tk + 1 }) ho fun h2 he2 sb => ?_⟩
    have hT2 : h2.get? s.heap.objs.size = some { cls := .type "tuple", data := .seq #[.int (c + (i : Nat)) tk, x'] } := (sb.2 _ (Nat.ne_of_gt hel)).trans hT
    have new : ObjOk X.prog X.w (upd H s.heap.objs.size (.tup [.int (c + (i : Nat)), x])) h2 s.heap.objs.size (.tup [.int (c + (i : Nat)), x]) :=
      ⟨by show 2 ≤ sizeLine; decide, [.int (c + (i : Nat)) tk, x'], .cons ⟨_, rfl⟩ (.cons ru .nil), ⟨_, hT2, rfl, _, rfl⟩⟩
    have I1 : Inv X pins σ (upd H s.heap.objs.size (.tup [.int (c + (i : Nat)), x])) { s with heap := h2, toks := tk + 1 } :=
      I.turnedNew (ch := [e, it]) (fun b ob hb q => (sb.2 b (fun z => hb (by simp [z]))).trans (hk b ob (fun z => hb (by simp [z])) (fun z => hb (by simp [z])) q)) hf (Nat.le_refl _) new
    refine ⟨.ref s.heap.objs.size, _, I1, rfl, ⟨_, x, rfl, I.hok.fresh (Nat.le_refl _), rfl, fun ys hy => by rw [I.list_inj hy hq]; exact hx⟩, ⟨⟨x', ?_⟩, hst'.1.at fun o q => (sb.2 it (Ne.symm hne)).trans q, hne, hna⟩, fun b hb => ?_⟩
    · rw [show c + ((i + 1 : Nat) : Int) = c + (i : Nat) + 1 by omega]
      exact he2
    · have hb' : b < s.heap.objs.size := by
        rcases (show b = e ∨ b = it by simpa using hb) with z | z
        · rw [z]; exact hel
        · rw [z]; exact hil
      rw [upd_ne (Nat.ne_of_lt hb')]
      exact (hf b hb).1
  done := by
    intro X hP hw hK hc i pins s σ H E I hf st hg
    subst hP hw hK
    obtain ⟨⟨old, he⟩, hit, hne, hna⟩ := st
    obtain ⟨xs, hq, hx⟩ := hg
    obtain ⟨its, rv, p, hz⟩ := I.list hq
    obtain ⟨f0, f1, f2, f3, f4, f5⟩ := hf it (by simp)
    have hl := rv.length
    have D : Draws X.prog X.w X.A.in1 it [it, a] i (fun _ _ => True) (fun j h => (h.IsListIter it a j ∧ h.IsList a its.toArray) ∧ j = i) :=
      { live := fun _ _ st => let ⟨o, ho, _⟩ := st.1.1; ⟨o, ho⟩
        frame := fun _ _ _ st hk => ⟨⟨st.1.1.at fun o e => hk it (by simp) o e, st.1.2.at fun o e => hk a (by simp) o e⟩, st.2⟩
        item := fun j _ _ _ hj st _ => absurd st.2 (by omega)
        done := fun s Q E st hE => wpAny_nextOf_list_end (I.ok.hd hc) st.1.1 st.1.2 (by simp; omega) hE }
    exact wpAny_pyNext_enum_endD D he ⟨⟨hit, p.isList⟩, rfl⟩ fun h' eb => ⟨rfl, I.turned (t' := s.toks) (fun b o hb q => eb b o hb q) f0 f1 f3 f4 f5⟩
  self := fun A i s Q E st h => by
    obtain ⟨⟨_, he⟩, _⟩ := st
    exact wpAny_pyIter_enum he h
/-- for .. in enumerate(xs, start=c) -/
def iEnumS (K : PySem.W.Frag) (c : Int) (ta : TA) : TI := fun σ H R => ta σ H fun vs H1 => ∃ a xs, vs = [.ref a] ∧ SqL K H1 a xs ∧ R (Ites K a c) H1
theorem pi_enumS {e : Expr} {ta : TA} {p pos tpos kp cp : Pos} {elts : List Expr} {kk j : Nat} {c : Int} (hg : Gl X "enumerate") (hm : X.mg "enumerate" = none) (ha : PA X [e] ta) (c0 : -(2 ^ 63) ≤ c) (c1 : c < 2 ^ 63) (hs : starEach [e] X.env = [(false, eval e X.env)] := by rfl) :
    PI X (.Tuple elts kk tpos) (.Call (.Name "enumerate" p) [e] [⟨some (Str.ofString "start"), .Constant (.int c) j cp, kp⟩] pos) (iEnumS X.K c ta) := by
  refine ⟨fun pins s σ H R I h => ?_⟩
  show wpAny _ _ (eval (.Name "enumerate" p) X.env >>= _) _ _ _
  refine wpAny_bind (ld_blt I hg hm boot_enumerate (callWith_typeK (thn (ha.run pos pins s σ H _ I h) fun us s1 ⟨vs, H1, I1, r1, q1⟩ => kws_cons (wpAny_Constant_int (kws_nil ?_))) ?_ ?_ ?_ ?_))
  · obtain ⟨a, xs, ex, hq, q⟩ := q1
    subst ex
    cases r1 with
    | cons r rr =>
      cases rr
      cases r
      obtain ⟨its, rv, p', hz⟩ := I1.list hq
      show wpAny _ _ (call (.type "enumerate") [.ref a] [(Str.ofString "start", .int c s1.toks)]) _ _ _
      refine enum_begins_start (s := { s1 with toks := s1.toks + 1 }) (begins_list a its.toArray) p'.isList c0 c1 fun h' he hit hsz hk => wpAny_pyIter_enum he ?_
      have I2 : Inv X pins σ H1 { s1 with heap := h', toks := s1.toks + 1 } := I1.kept (t' := s1.toks + 1) hk
      have hal : a < s1.heap.objs.size := by
        obtain ⟨o, m, _⟩ := p'.isList
        exact Heap.lt_size m
      refine ⟨s1.heap.objs.size + 1, [s1.heap.objs.size + 1, s1.heap.objs.size], _, _, H1, rfl, I2, turn_enumS a (s1.heap.objs.size + 1) s1.heap.objs.size c, ⟨⟨.none, by simpa using he⟩, ⟨_, hit, rfl, rfl⟩, Nat.succ_ne_self _, Nat.ne_of_lt hal⟩, fun b hb => ?_, q⟩
      have hle : s1.heap.objs.size ≤ b := by
        rcases (show b = s1.heap.objs.size + 1 ∨ b = s1.heap.objs.size by simpa using hb) with z | z
        · rw [z]; exact Nat.le_add_right _ _
        · rw [z]; exact Nat.le_refl _
      exact I1.fpOk hle (I1.hok.fresh hle)
  · rw [hs]
    rfl
  · rw [hs]
    rfl
  all_goals rfl
end
end Far

namespace Far
open PySem PySem.Spec PyProof.Rows L2
section
variable {X : Cx}
/-- name = {k: v for ..} on one line, the name a local one -/
theorem ps_setDc {i : Nat} {y : Str} {py spos pos : Pos} {kx vx tg iter : Expr} {ifs : List Expr} {scope : Scope} {own : List (Str × Nat)} {wi : TI} {g : TG} {tt : TT} {tk tv : TE}
    (hc : X.calm = true) (hN : X.N.Nodup) (hy : X.N[i]? = some y) (hyl : X.env.scope.names.lookup y = some .local) (hsw : swapsWith (.DictComp kx vx [⟨tg, iter, ifs, 0⟩] scope pos) (some (.Name y py)) spos.line X.env = pure true)
    (hi : PI X tg iter wi) (ok : BlkOk X.N X.env.scope scope own)
    (hg : ∀ (s : Shared) (H : Hp) (C : Addr) (l : List (Str × Addr)) (fp : List Addr), PG (X.blk s H scope (compEnvC scope l C X.env) fp) tg g)
    (ht : ∀ (s : Shared) (H : Hp) (C : Addr) (l : List (Str × Addr)) (fp : List Addr), PTs (X.blk s H scope (compEnvC scope l C X.env) fp) ifs tt)
    (hk : ∀ (s : Shared) (H : Hp) (C : Addr) (l : List (Str × Addr)) (fp : List Addr), PE (X.blk s H scope (compEnvC scope l C X.env) fp) kx tk)
    (hv : ∀ (s : Shared) (H : Hp) (C : Addr) (l : List (Str × Addr)) (fp : List Addr), PE (X.blk s H scope (compEnvC scope l C X.env) fp) vx tv)
    (hs : ∀ x, foldedSetIterable iter X.env x = pure x := by intro _; rfl) : PS X (.Assign [.Name y py] (.DictComp kx vx [⟨tg, iter, ifs, 0⟩] scope pos) spos) (tAsg (tDc wi g tt tk tv (own.map (·.2))) (gName i)) := by
  refine ⟨fun pins s σ H D I h => ?_⟩
  replace h : tDc wi g tt tk tv (own.map (·.2)) σ H (fun v H1 => gName i v σ H1 D.nx) := h
  rw [exec_Assign_Name_used _ _ _ _ hsw]
  refine wpAny_bind (wpAny_standAt (wpAny_bind ?_))
  show wpAny _ X.A (do let _ ← comprehension (.DictComp kx vx [⟨tg, iter, ifs, 0⟩] scope pos) scope X.env (firstIterPos [⟨tg, iter, ifs, 0⟩] pos) newDict false (eval iter X.env) (some (assign (.Name y py) X.env))) _ _ s
  refine wpAny_bind (thn (dc_core (Qf := fun _ s1 => SP X pins D .next s1) hc hN I hi ok hg ht hk hv hs h fun L C s1 m H1 I1 q hn f => ?_) fun _ s1 z => wpAny_pure (wpAny_pure z))
  show wpAny _ _ (assign (.Name y py) X.env (.ref L)) _ _ _
  obtain ⟨f0, f1, f2, f3, f4, f5⟩ := f
  refine wpAny_assign_Name (store_ok2 (v := V.ref L) I1 hN hy (.inl hyl) rfl (fun s2 I2 ⟨a, sb, ha⟩ => ⟨m, hn.sameBut sb ?_, fun h3 sb3 => ?_⟩) (.inr hyl))
  · rcases ha with z | z
    · exact z ▸ f1
    · exact fun e => f4 y a z e.symm
  · exact ⟨_, H1, I2.turned (t' := s2.toks) (fun b o hb e => (sb3.2 b hb).trans e) f0 f1 f3 f4 f5, q⟩
theorem swD_true {kx vx : Expr} {gs : List Comprehension} {scope : Scope} {pos py : Pos} {y : Str} {l : Nat} {env : Env} (hk : env.scope.kind = .function) (hy : env.scope.names.lookup y = some .local) (hl : (py.line == pos.line) = true)
    (ha : (scope.names.any fun (n, k) => n == y && (k == .local || k == .cell)) = false) : swapsWith (.DictComp kx vx gs scope pos) (some (.Name y py)) l env = pure true := by
  have e1 : env.kindOf y = some .local := hy
  have e2 : env.blockKind = .function := by unfold Env.blockKind; rw [hk]; rfl
  unfold swapsWith
  simp only [e2, e1, ha, Expr.pos, hl]
  rfl
end
end Far

namespace Far
open PySem PySem.Spec PyProof.Rows L2
open C8 (pss_cut tCut)
open SX (S)
/-! ### the program's own names -/
structure TxtP (mg : Str → Option Value) : Prop where
  len : mg "len" = none
  all : mg "all" = none
  tuple : mg "tuple" = none
  int : mg "int" = none
  list : mg "list" = none
  enumerate : mg "enumerate" = none
  LETTERS : ∃ t, mg "LETTERS" = some (.str ("abcdefghijklmnopqrstuvwxyz" : Str) t)
  FIGURES : ∃ t, mg "FIGURES" = some (.str ("0123456789" : Str) t)
  LONGEST_NAME : ∃ t, mg "LONGEST_NAME" = some (.int 8 t)
/-- a comprehension over a text's signs -/
theorem lc_str {x : Str} {g : TG} {tt : TT} {te : TE} {vs : List Nat} {σ : L2.St} {H1 : Hp} {D : Addr} {Qd : Hp → Prop} (Pv : Nat → Hp → Prop) (h0 : Pv 0 (upd H1 D (.lst [])))
    (hs : ∀ i c H, x.cps[i]? = some c → Pv i H → g (.str ⟨#[c]⟩) (wipe σ vs) H fun σ2 H2 => wipe σ2 vs = wipe σ vs ∧ tt σ2 H2 fun b H3 =>
      if b = true then te σ2 H3 fun y H4 => ∃ acc, H4 D = some (.lst acc) ∧ acc.length < sizeLine ∧ Pv (i + 1) (upd H4 D (.lst (acc ++ [y]))) else Pv (i + 1) H3) (hd : ∀ H, Pv x.cps.size H → Qd H) :
    ∃ W : Nat → Nat → Hp → Prop, (∃ m, W 0 m (upd H1 D (.lst []))) ∧ ∀ i m H, W i m H →
      ((Its x).stop i H ∧ Qd H) ∨ ((Its x).go i H ∧ ∃ Nx : Hp → Prop, (∀ H', Nx H' → ∃ m', m' < m ∧ W (i + 1) m' H') ∧ ∀ v H', (Its x).yld i H v H' → g v (wipe σ vs) H' fun σ2 H2 => wipe σ2 vs = wipe σ vs ∧ tt σ2 H2 fun b H3 =>
        if b = true then te σ2 H3 fun y H4 => ∃ acc, H4 D = some (.lst acc) ∧ acc.length < sizeLine ∧ Nx (upd H4 D (.lst (acc ++ [y]))) else Nx H3) := by
  refine ⟨fun i m H => m = x.cps.size - i ∧ i ≤ x.cps.size ∧ Pv i H, ⟨x.cps.size, by simp, Nat.zero_le _, h0⟩, fun i m H ⟨em, hi, p⟩ => ?_⟩
  by_cases lt : i < x.cps.size
  · refine .inr ⟨lt, Pv (i + 1), fun H' p' => ⟨x.cps.size - (i + 1), by omega, rfl, lt, p'⟩, fun v H' ⟨e, c, hc, ev⟩ => ?_⟩
    rw [e, ev]
    exact hs i c H hc p
  · have e : i = x.cps.size := by omega
    rw [e] at p
    exact .inl ⟨by show x.cps.size ≤ i; omega, hd H p⟩
theorem letters_is (c : Nat) : decide (c ∈ ("abcdefghijklmnopqrstuvwxyz" : Str).cps.toList) = (decide (97 ≤ c) && decide (c ≤ 122)) := by
  have e : ("abcdefghijklmnopqrstuvwxyz" : Str).cps.toList = List.range' 97 26 := by decide +kernel
  rw [e]
  by_cases h : 97 ≤ c ∧ c ≤ 122
  · rw [decide_eq_true h.1, decide_eq_true h.2]
    exact decide_eq_true (List.mem_range'_1.mpr (by omega))
  · have n : ¬ c ∈ List.range' 97 26 := fun m => h (by have := List.mem_range'_1.mp m; omega)
    rw [decide_eq_false n]
    by_cases h1 : 97 ≤ c
    · rw [decide_eq_false (show ¬ c ≤ 122 by omega), Bool.and_false]
    · rw [decide_eq_false h1, Bool.false_and]
theorem figures_is (c : Nat) : decide (c ∈ ("0123456789" : Str).cps.toList) = (decide (48 ≤ c) && decide (c ≤ 57)) := by
  have e : ("0123456789" : Str).cps.toList = List.range' 48 10 := by decide +kernel
  rw [e]
  by_cases h : 48 ≤ c ∧ c ≤ 57
  · rw [decide_eq_true h.1, decide_eq_true h.2]
    exact decide_eq_true (List.mem_range'_1.mpr (by omega))
  · have n : ¬ c ∈ List.range' 48 10 := fun m => h (by have := List.mem_range'_1.mp m; omega)
    rw [decide_eq_false n]
    by_cases h1 : 48 ≤ c
    · rw [decide_eq_false (show ¬ c ≤ 57 by omega), Bool.and_false]
    · rw [decide_eq_false h1, Bool.false_and]
def isName (l : Nm) : Bool := decide (1 ≤ l.length) && decide (l.length ≤ 8) && l.all fun c => decide (97 ≤ c) && decide (c ≤ 122)
theorem isName_iff {l : Nm} : isName l = true ↔ NameOk l := by
  unfold isName NameOk
  simp only [Bool.and_eq_true, decide_eq_true_eq, List.all_eq_true, and_assoc]
def isLen (l : Nm) : Bool := !(decide (l = []) || decide (l.head? = some 48)) && l.all fun c => decide (48 ≤ c) && decide (c ≤ 57)
abbrev s_is_name : Stmt := topS 12
abbrev N_is_name : List Str := ["word", "sign"]
theorem sc_is_name : FnScope N_is_name ["word"] (defScope s_is_name) := ⟨rfl, rfl, rfl, by decide +kernel, rfl, by decide +kernel, by decide +kernel⟩
abbrev s_is_length : Stmt := topS 13
abbrev N_is_length : List Str := ["word", "sign"]
theorem sc_is_length : FnScope N_is_length ["word"] (defScope s_is_length) := ⟨rfl, rfl, rfl, by decide +kernel, rfl, by decide +kernel, by decide +kernel⟩
section
variable {P : Program} {w : World} {K : PySem.W.Frag} {mg : Str → Option Value} {base : Heap}
theorem all_take {α : Type} {p : α → Bool} {cs : List α} {i : Nat} {c : α} (h : cs[i]? = some c) : (cs.take (i + 1)).map p = (cs.take i).map p ++ [p c] := by
  rw [List.take_add_one, h, List.map_append]
  rfl
def spIsName : Sp := fun vs H Q _ => ∃ l : Nm, vs = [.str (S l)] ∧ l.length ≤ 100000 ∧ ∀ H', Same H H' → Q (.bl (isName l)) H'
theorem ok_is_name {f : Addr} {fd : FuncData} (F : Fun K "is_name" "is_name" s_is_name f fd) (T : TxtP mg) : FnOk P w K mg base CX0 1 f fd ["word"] spIsName := by
  obtain ⟨t1, h_LETTERS⟩ := T.LETTERS
  obtain ⟨t3, h_LONGEST_NAME⟩ := T.LONGEST_NAME
  refine F.ok sc_is_name (fun vs H Q E h => ?_) (fun cdv A outer s H vs Q E hr h => ?_)
  · obtain ⟨l, rfl, _⟩ := h
    rfl
  · obtain ⟨l, rfl, hl, q⟩ := h
    refine ⟨_, (pss_cut (ps_if (pt_not (pt_chain op_le op_le pe_int (pe_callB call_len (by rfl) T.len bt_len (pa_cons (pv 0) pa_nil)) (pe_glob (v := .int 8) rfl h_LONGEST_NAME ⟨_, rfl⟩)))
        (pss_one (ps_ret pe_bl))
        pss_nil)
      (pss_one (ps_ret (pe_callB (cr_all rfl) (by rfl) T.all bt_all (pa_cons (pe_lc (own := [("sign", 1)]) (g := gName 1) (tt := tYes) rfl sc_is_name.nd (pi_str (pv 0)) (blkOk_by (N := N_is_name) (sc := defScope s_is_name) (by decide +kernel)) (fun _ _ _ _ _ => pg_name (i := 1) sc_is_name.nd rfl (Or.inl rfl)) (fun _ _ _ _ _ => pts_nil) (fun _ _ _ _ _ => (pe_cmpR op_in_sign (pv 1) (pe_glob (v := .str ("abcdefghijklmnopqrstuvwxyz" : Str)) rfl h_LETTERS ⟨_, rfl⟩) rfl))) pa_nil))))), ?_⟩
    refine ⟨fun σ' H' => σ' = [some (.str (S l)), none] ∧ H' = H ∧ (1 ≤ l.length ∧ l.length ≤ 8), ?_, fun σ' H' hM => ?_⟩
    · refine ⟨_, rfl, _, _, rfl, ⟨by rw [SX.S_len]; exact sz_le hl, (SX.S_len _).symm⟩, _, _, rfl, rfl, _, rfl, ite2 (fun e1 => ?_) (fun e1 => ?_)⟩
      · refine ⟨_, _, rfl, rfl, _, rfl, ?_⟩
        have h1 := of_decide_eq_true e1
        by_cases h2 : (l.length : Int) ≤ 8
        · rw [decide_eq_true h2]
          exact iteF ⟨rfl, rfl, by omega, by omega⟩
        · rw [decide_eq_false h2]
          have : isName l = false := by
            cases e : isName l with
            | false => rfl
            | true => exact absurd (isName_iff.mp e).2.1 (by omega)
          have := q H (Same.refl H)
          rw [‹isName l = false›] at this
          exact iteT this
      · refine ⟨_, rfl, ?_⟩
        have : isName l = false := by
          cases e : isName l with
          | false => rfl
          | true => exact absurd (decide_eq_true (show (1 : Int) ≤ (l.length : Int) from by have := (isName_iff.mp e).1; omega)) e1
        have := q H (Same.refl H)
        rw [‹isName l = false›] at this
        exact iteT this
    · obtain ⟨rfl, rfl, h1, h8⟩ := hM
      refine ⟨_, rfl, _, rfl, fun D nD => ?_⟩
      refine lc_str (x := S l) (fun i H'' => H'' = upd H' D (.lst (((l.take i).map fun c => decide (97 ≤ c) && decide (c ≤ 122)).map V.bl))) rfl (fun i c H'' hc hP => ?_) (fun H'' hP => ?_)
      · subst hP
        have hc : l[i]? = some c := by simpa using hc
        have il := (List.getElem?_eq_some_iff.mp hc).1
        refine ⟨rfl, _, rfl, c, _, rfl, rfl, _, upd_same, by rw [List.length_map, List.length_map, List.length_take]; exact sz_lt (by omega), ?_⟩
        rw [upd_upd, letters_is, all_take hc, List.map_append]
        rfl
      · subst hP
        have e : (S l).cps.size = l.length := by simp
        rw [e, List.take_length]
        refine ⟨D, _, rfl, SqL.of upd_same, ?_⟩
        have e2 : isName l = (l.map fun c => decide (97 ≤ c) && decide (c ≤ 122)).all id := by
          unfold isName
          rw [decide_eq_true h1, decide_eq_true h8, List.all_map]
          rfl
        rw [← e2]
        refine q _ fun b o hb => ?_
        rw [upd_ne (ne_of_none hb nD)]
        exact hb
def spIsLen : Sp := fun vs H Q _ => ∃ l : Nm, vs = [.str (S l)] ∧ l.length ≤ 100000 ∧ ∀ H', Same H H' → Q (.bl (isLen l)) H'
theorem starts0 (l : Nm) : Txt.startswith (S l) ("0" : Str) = decide (l.head? = some 48) := by
  cases l with
  | nil => decide +kernel
  | cons c r =>
    have e : ("0" : Str) = S [48] := by decide +kernel
    unfold Txt.startswith
    rw [PySem.StrLaws.subAt_eq, e]
    have h1 : decide (0 + (S [48]).length ≤ (S (c :: r)).length) = true := decide_eq_true (by rw [SX.S_len, SX.S_len]; simp)
    rw [h1, Bool.true_and]
    show ((c :: r).take 1 == [48]) = decide (some c = some 48)
    by_cases h : c = 48
    · subst h
      simp
    · rw [decide_eq_false (fun z => h (Option.some.inj z))]
      simp [h]
theorem ok_is_length {f : Addr} {fd : FuncData} (F : Fun K "is_length" "is_length" s_is_length f fd) (T : TxtP mg) : FnOk P w K mg base CX0 1 f fd ["word"] spIsLen := by
  obtain ⟨t1, h_FIGURES⟩ := T.FIGURES
  refine F.ok sc_is_length (fun vs H Q E h => ?_) (fun cdv A outer s H vs Q E hr h => ?_)
  · obtain ⟨l, rfl, _⟩ := h
    rfl
  · obtain ⟨l, rfl, hl, q⟩ := h
    refine ⟨_, (pss_cut (ps_if (PW.pt (pw_or (pt_cmpR op_eq (pv 0) pe_str (nomark _)) (pw_or1 (pt_val (pe_m1 PySem.F.slot_str_startswith PySem.F.type_str_startswith mt_startswith (pv 0) pe_str)))))
        (pss_one (ps_ret pe_bl))
        pss_nil)
      (pss_one (ps_ret (pe_callB (cr_all rfl) (by rfl) T.all bt_all (pa_cons (pe_lc (own := [("sign", 1)]) (g := gName 1) (tt := tYes) rfl sc_is_length.nd (pi_str (pv 0)) (blkOk_by (N := N_is_length) (sc := defScope s_is_length) (by decide +kernel)) (fun _ _ _ _ _ => pg_name (i := 1) sc_is_length.nd rfl (Or.inl rfl)) (fun _ _ _ _ _ => pts_nil) (fun _ _ _ _ _ => (pe_cmpR op_in_sign (pv 1) (pe_glob (v := .str ("0123456789" : Str)) rfl h_FIGURES ⟨_, rfl⟩) rfl))) pa_nil))))), ?_⟩
    have e0 : ("" : Str) = S [] := by decide +kernel
    refine ⟨fun σ' H' => σ' = [some (.str (S l)), none] ∧ H' = H ∧ isLen l = l.all fun c => decide (48 ≤ c) && decide (c ≤ 57), ?_, fun σ' H' hM => ?_⟩
    · refine ⟨_, rfl, rfl, _, rfl, ite2 (fun e1 => ?_) (fun e1 => ?_)⟩
      · have el : l = [] := by
          have := of_decide_eq_true e1
          rw [e0] at this
          exact SX.S_inj (V.str.inj this)
        subst el
        exact iteT (q H (Same.refl H))
      · have nl : l ≠ [] := fun z => e1 (by rw [z]; exact decide_eq_true (by rw [e0]))
        refine ⟨_, rfl, ⟨_, rfl⟩, _, _, rfl, rfl, _, rfl, ?_⟩
        rw [starts0]
        by_cases h0 : l.head? = some 48
        · rw [decide_eq_true h0]
          have : isLen l = false := by
            unfold isLen
            rw [decide_eq_true h0, Bool.or_true]
            rfl
          have := q H (Same.refl H)
          rw [‹isLen l = false›] at this
          exact iteT this
        · rw [decide_eq_false h0]
          refine iteF ⟨rfl, rfl, ?_⟩
          unfold isLen
          rw [decide_eq_false h0, decide_eq_false nl]
          rfl
    · obtain ⟨rfl, rfl, he⟩ := hM
      refine ⟨_, rfl, _, rfl, fun D nD => ?_⟩
      refine lc_str (x := S l) (fun i H'' => H'' = upd H' D (.lst (((l.take i).map fun c => decide (48 ≤ c) && decide (c ≤ 57)).map V.bl))) rfl (fun i c H'' hc hP => ?_) (fun H'' hP => ?_)
      · subst hP
        have hc : l[i]? = some c := by simpa using hc
        have il := (List.getElem?_eq_some_iff.mp hc).1
        refine ⟨rfl, _, rfl, c, _, rfl, rfl, _, upd_same, by rw [List.length_map, List.length_map, List.length_take]; exact sz_lt (by omega), ?_⟩
        rw [upd_upd, figures_is, all_take hc, List.map_append]
        rfl
      · subst hP
        have e : (S l).cps.size = l.length := by simp
        rw [e, List.take_length]
        refine ⟨D, _, rfl, SqL.of upd_same, ?_⟩
        have e2 : isLen l = (l.map fun c => decide (48 ≤ c) && decide (c ≤ 57)).all id := by
          rw [he, List.all_map]
          rfl
        rw [← e2]
        refine q _ fun b o hb => ?_
        rw [upd_ne (ne_of_none hb nD)]
        exact hb
end
end Far

namespace Far
open PySem PySem.Spec PyProof.Rows L2
section
variable {X : Cx} {o e : Expr} {es : List Expr} {to te : TE} {ta : TA} {f : Str} {p p' p1 p2 pos : Pos}
/-- C0.__init__(self, ..), C0 an own class over ValueError without an __init__ of its own -/
theorem pe_owninit {x : Str} {C0 : Addr} {pl : Sem Bool} (hg : Gl X x) (hm : X.mg x = some (.ref C0)) (rd : PySem.W.readsIn X.K C0 (.type "type") = true) (ga : PySem.W.specialIn X.K (.ref C0) "__getattribute__" = some (some (.builtin "type.__getattribute__")))
    (vV : PySem.W.findCls X.K (.ref C0) (.type "type") "__init__" = some (.val (.builtin "ValueError.__init__"))) (ha : PA X (e :: es) ta)
    (hdb : (x == ("__debug__" : Str)) = false := by decide)
    (hc : eval (.Call (.Attribute (.Name x p1) "__init__" p2) (e :: es) [] pos) X.env = (do
      let ov ← eval (.Name x p1) X.env
      standAt p2.atName
      let (f, first) ← holding [ov] (getMethod ov "__init__" pl)
      callWith pos f first (backTo pos (starEach (e :: es) X.env)) (backToKw pos (keywordEach [] X.env))) := by rfl)
    (he : starEach (e :: es) X.env = (false, eval e X.env) :: starEach es X.env := by rfl) (hpl : (backTo pos (starEach es X.env)).any (·.1) = false := by rfl) :
    PE X (.Call (.Attribute (.Name x p1) "__init__" p2) (e :: es) [] pos) (tVeI X.K ta) := by
  refine ⟨fun pins s σ H Q I h => ?_⟩
  refine PySem.W.methodCall_KW (ld_glob I hg hm ?_ hdb) hc
  refine PySem.W.method_cls I.kIn ga ?_
  refine PySem.W.cls_value I.kIn rd vV (by decide +kernel) ?_
  show wpAny _ _ (callWith pos (Value.builtin "ValueError.__init__") [] (backTo pos (starEach (e :: es) X.env)) []) _ _ _
  refine PyProof.Rows.callWith_method1 (thn (ha.run pos pins _ σ H _ (I.tok _) h) fun us s1 ⟨vs, H1, I1, r1, a, C, ws, ev, hl, T, ea, q⟩ => ?_) he hpl
  subst ev
  cases r1 with
  | @cons _ u0 _ ur ra rw' =>
    obtain rfl : u0 = Value.ref a := ra
    have hlen : ur.length ≤ sizeLine := by
      rw [← Paired.length rw', sizeLine_eq]
      omega
    exact oinit_ok T I1 ea hlen fun s' J => ⟨.non, H1, J, rfl, q⟩
end
end Far

namespace Far
open PySem PySem.Spec PyProof.Rows L2
/-! ### except x as e: name = e, the error kept behind the suite -/
/-- an error that was caught: of the class cls, its own dict at d -/
def caughtO (a : Addr) (cls : Value) (d : Option Addr) : HO := .ext fun h => ∃ (oe : Obj) (vs : Array Value), h.get? a = some oe ∧ Zc cls d oe ∧ oe.data = .fields vs
theorem caughtO_ok {P : Program} {w : World} {H : Hp} {h : Heap} {a : Addr} {cls : Value} {d : Option Addr} {oe : Obj} {vs : Array Value} (e : h.get? a = some oe) (z : Zc cls d oe) (hd : oe.data = .fields vs) : ObjOk P w H h a (caughtO a cls d) :=
  ⟨⟨oe, vs, e, z, hd⟩, ⟨oe, e⟩, fun _ _ ⟨o, v, q, r⟩ k => ⟨o, v, k o q, r⟩⟩
theorem caughtO_at {P : Program} {w : World} {H : Hp} {h : Heap} {a : Addr} {cls : Value} {d : Option Addr} (hok : HOk P w H h) (he : H a = some (caughtO a cls d)) : ∃ (oe : Obj) (vs : Array Value), h.get? a = some oe ∧ Zc cls d oe ∧ oe.data = .fields vs := by
  have x : ObjOk P w H h a (.ext fun h => ∃ (oe : Obj) (vs : Array Value), h.get? a = some oe ∧ Zc cls d oe ∧ oe.data = .fields vs) := hok a _ he
  exact x.1
section
variable {X : Cx} {pins : List (Addr × Obj)} {σ : L2.St} {H : Hp} {s : Shared}
/-- an object that was pinned, new in this call, is tracked from here on -/
theorem adopt {a : Addr} {oe : Obj} {vs : Array Value} {cls : Value} {d : Option Addr} (I : Inv X ((a, oe) :: pins) σ H s) (z : Zc cls d oe) (hd : oe.data = .fields vs) (h0 : X.s_0.heap.get? a = none) (hp : ∀ p ∈ X.pn ++ pins, p.1 ≠ a) :
    Inv X pins σ (upd H a (caughtO a cls d)) s := by
  obtain ⟨pa, na, nL, nF, nc⟩ := I.pin (a, oe) (List.mem_append_right _ List.mem_cons_self)
  have pa : s.heap.get? a = some oe := pa
  have na : H a = none := na
  have nL : a ≠ X.env.locals := nL
  refine ⟨I.ok, I.os, I.bare, ⟨I.base.keep, I.base.slot, fun b o e n hx => ?_, I.base.there, fun b xs e => ?_, fun b o u e => ?_, fun b ps e => ?_⟩, I.loc, I.cell, ?_, fun x c e => ?_, fun p hq => ?_, ?_, I.len⟩
  · have hb : b ≠ a := fun q => by rw [q, h0] at e; cases e
    rw [upd_ne hb]
    exact I.base.free b o e n hx
  · have q := I.base.tups b xs e
    rw [upd_ne (ne_of_none q na)]
    exact q
  · have q := I.base.frzs b o u e
    rw [upd_ne (ne_of_none q na)]
    exact q
  · obtain ⟨more, q⟩ := I.base.tbls b ps e
    refine ⟨more, ?_⟩
    rw [upd_ne (ne_of_none q na)]
    exact q
  · rw [upd_ne (Ne.symm nL)]
    exact I.free
  · obtain ⟨v, hc⟩ := I.cell x c e
    have hb : c ≠ a := fun q => by
      obtain ⟨o, ho, hcl⟩ := hc
      rw [q, pa] at ho
      cases ho
      exact nc v (by first | exact hcl | exact hcl.1 | exact hcl.2)
    rw [upd_ne hb]
    exact I.freeC x c e
  · have m : p ∈ X.pn ++ ((a, oe) :: pins) := by
      rcases List.mem_append.mp hq with h | h
      · exact List.mem_append_left _ h
      · exact List.mem_append_right _ (List.mem_cons_of_mem _ h)
    obtain ⟨q1, q2, q3⟩ := I.pin p m
    exact ⟨q1, by rw [upd_ne (hp p hq)]; exact q2, q3⟩
  · exact I.hok.laidN (fun _ _ q => q) na (caughtO_ok pa z hd)
end
/-- what the clause 'except x as n: m = n' wishes of an exception of the body: slot i is n's, j is m's -/
def wKeep (K : PySem.W.Frag) (c : Value) (i j : Nat) (Wout : WX) (D : Ends) : WX := fun cls d σ H =>
  ∃ b, PySem.W.exmOne K cls c = some b ∧ (b = true → ∀ a, H a = none → D.nx (((σ.set i (some (.ref a))).set j (some (.ref a))).set i none) (upd H a (caughtO a cls d))) ∧
    (b = false → Wout cls d σ H)
section
variable {X : Cx} {x n : Str} {c : Value} {i j : Nat} {body : List Stmt} {b₀ : Stmt} {np pos pos' : Pos} {tb : WX → TS} {ts : TS} {Wout : WX}
theorem ps_try_keep (hs : X.stack = X.env :: X.outer) (hf : X.env.frame = some X.env.locals) (hex : X.ex = []) (hN : X.N.Nodup) (hi : X.N[i]? = some n) (hln : X.env.kindOf n = some .local) (hc : Names X x c) (tk : Takes X Wout)
    (hb : ∀ (W : WX) (pn : List (Addr × Obj)) (xe : Value → Shared → Prop), Takes (X.tr pn xe) W → PassesOwn (model X.prog X.w) X.A X.env xe → PSs (X.tr pn xe) body (tb W))
    (hsu : ∀ (a : Addr) (oe : Obj) (cls : Value) (d : Option Addr) (pn : List (Addr × Obj)), Zc cls d oe → (∃ vs, oe.data = .fields vs) → PSs (X.suite a ((a, oe) :: pn)) [b₀] ts)
    (hts : ∀ (D : Ends) (σ : L2.St) (H : Hp) (a : Addr), σ[i]? = some (some (.ref a)) → D.nx (σ.set j (some (.ref a))) H → ts D σ H) :
    PS X (.Try body [.ExceptHandler (some (.Name x np)) (some n) [b₀] pos'] [] [] pos) (fun D σ H => tb (wKeep X.K c i j Wout D) D σ H) := by
  refine ⟨fun pins s σ H D I h => ?_⟩
  have ok := I.ok
  have hfr : X.A.frames = some (X.env :: X.outer) := by rw [ok.frames, hs]
  have hloc : Loc X.env.scope n := .inl hln
  refine wpAny_Try_except ?_
  refine wpAny_mono ((hb (wKeep X.K c i j Wout D) (X.pn ++ pins) (fun e s₁ => wpAny (model X.prog X.w) X.A (noteFrame e X.env) (fun _ s₂ => wpAny (model X.prog X.w) X.A (setFlight e none) (fun _ s₃ =>
    wpAny (model X.prog X.w) X.A (handleBy e X.env [.ExceptHandler (some (.Name x np)) (some n) [b₀] pos']) (SP X pins D) X.xe s₃) X.xe s₂) X.xe s₁) (fun u s' xx => ?_) PassesOwn.looking).run [] s σ H D (I.toTry _) h) (fun f s1 hsp => ?_) (fun e s1 he => he)
  · obtain ⟨a, B, sI, pins', σ', H', cls, d, rfl, J', nb, up, sky, na, os, ag, b, hb1, hyes, hno⟩ := xx
    have J : Inv X pins σ' H' sI := J'.ofTry ok
    have sky' : Sky B (X.env :: X.outer) a (Zc cls d) X.env.locals s'.heap := by rw [← hs]; exact sky
    show wpAny _ X.A (noteFrame (.ref a) X.env) _ _ _
    refine Sky.land Zc.steady hfr hf sky' fun h3 fl3 up3 => ?_
    have J3 : Inv X pins σ' H' { s' with heap := h3 } := J.landed nb fl3.1 (up.trans up3) os ag
    obtain ⟨oe3, vs3, he3, hz3, hd3⟩ := fl3.there
    have notFr : ∀ {h : Heap} {o : Obj} {vs : Array Value}, h.FunFrames B (X.env :: X.outer) → h.get? a = some o → o.data = .fields vs → a ∉ frs (X.env :: X.outer) := fun {h o vs} ff e dd hm => by
      obtain ⟨_, o', e', hnf⟩ := ff.mem hm
      rw [e] at e'; cases e'
      exact hnf _ dd
    have nfr := notFr fl3.2.2.1 he3 hd3
    have nL : a ≠ X.env.locals := fun z => nfr (List.mem_filterMap.mpr ⟨X.env, List.mem_cons_self, by rw [hf, z]⟩)
    have nF : a ∉ X.fs := fun hm => by
      obtain ⟨e, he, q⟩ := List.mem_filterMap.mp hm
      exact nfr (List.mem_filterMap.mpr ⟨e, List.mem_cons_of_mem _ he, q⟩)
    have nB : B.get? a = none := fl3.2.1
    have nI : sI.heap.get? a = none := by
      cases q : sI.heap.get? a with
      | none => rfl
      | some o =>
        have := nb a o q (by rw [hs]; exact nfr)
        rw [nB] at this
        cases this
    have n0 : X.s_0.heap.get? a = none := by
      cases q : X.s_0.heap.get? a with
      | none => rfl
      | some o =>
        obtain ⟨o', q'⟩ := J.base.there a o q (by rw [hex]; intro z; cases z)
        rw [nI] at q'
        cases q'
    have nP : ∀ p ∈ X.pn ++ pins, p.1 ≠ a := fun p hp z => by
      have := (J.pin p hp).1
      rw [z, nI] at this
      cases this
    have S3 := J3.suite he3 hd3 na nL nF
    refine wpAny_handleBy_cons (codeAny_handlers_test ?_) (by intro q; cases q)
    have LT : PySem.W.Looks (model X.prog X.w) h3 (typeOf (.ref a)) cls := fun A Q E s k q => wpAny_typeOf_ref (k _ _ he3) (by rw [hz3.1]; exact q)
    have LM := PySem.W.exm_one (M := model X.prog X.w) (J3.kIn) LT hb1
    have test : ∀ {Q : Value → Shared → Prop} {E : Value → Shared → Prop}, Q c { s' with heap := h3 } → wpAny (model X.prog X.w) (X.A.mark (some (.ref a))) (eval (.Name x np) X.env) Q E { s' with heap := h3 } := fun {Q E} q => by
      obtain ⟨hg, hdbg, hm | ⟨hm, hv, hnn⟩⟩ := hc
      · exact ld_glob (X := X.suite a ((a, oe3) :: (X.pn ++ pins))) S3 hg hm q hdbg
      · exact ld_blt (X := X.suite a ((a, oe3) :: (X.pn ++ pins))) S3 hg hm hv q hnn hdbg
    refine test (LM.here ?_)
    cases b with
    | true =>
      refine codeAny_handlers_suite_as ?_
      refine HandSPX.lands_againZ fl3 fun h4 fl4 up4 => ?_
      have J4 : Inv X pins σ' H' { s' with heap := h4 } := J.landed nb fl4.1 ((up.trans up3).trans up4) os ag
      obtain ⟨oe4, vs4, he4, hz4, hd4⟩ := fl4.there
      have S4 := J4.suite he4 hd4 na nL nF
      refine store_ok (X := X.suite a ((a, oe4) :: (X.pn ++ pins))) (v := .ref a) S4 hN hi hloc rfl (fun s5 S5 => ?_) (.inr hln)
      have li : i < σ'.length := by
        rw [J4.len]
        exact (List.getElem?_eq_some_iff.mp hi).1
      have run := (hsu a oe4 cls d (X.pn ++ pins) hz4 ⟨_, hd4⟩).run [] s5 (σ'.set i (some (.ref a))) H' { nx := fun σ6 H6 => σ6 = (σ'.set i (some (.ref a))).set j (some (.ref a)) ∧ H6 = H', rt := fun _ _ => False, bk := fun _ _ => False, ct := fun _ _ => False } S5
        (hts _ _ _ a (by simp [li]) ⟨rfl, rfl⟩)
      refine wpAny_mono run (fun f s6 hsp => ?_) (fun _ _ z => False.elim z)
      have end_ : ∀ {σ6 : L2.St} {H6 : Hp} {Q : Shared → Prop}, Inv (X.suite a ((a, oe4) :: (X.pn ++ pins))) [] σ6 H6 s6 → (∀ s7, Inv X ((a, oe4) :: pins) (σ6.set i none) H6 s7 → Q s7) →
          wpAny (model X.prog X.w) X.A (do bindName X.env n .none; unbindBehindTheSuite X.env n pos') (fun _ s7 => Q s7) X.xe s6 := fun {σ6 H6 Q} S6 hq => by
        have S6' : Inv X ((a, oe4) :: pins) σ6 H6 s6 := ⟨ok, S6.os, S6.bare, S6.base, S6.loc, S6.cell, S6.free, S6.freeC, fun p hp => S6.pin p (by
          refine List.mem_append_left _ ?_
          show p ∈ (a, oe4) :: (X.pn ++ pins)
          rcases List.mem_append.mp hp with h | h
          · exact List.mem_cons_of_mem _ (List.mem_append_left _ h)
          · rcases List.mem_cons.mp h with h | h
            · rw [h]; exact List.mem_cons_self
            · exact List.mem_cons_of_mem _ (List.mem_append_right _ h)), S6.hok, S6.len⟩
        exact gone_ok S6' hN hi hln hq
      cases f with
      | next =>
        obtain ⟨σ6, H6, S6, e1, e2⟩ := hsp
        subst e1 e2
        exact end_ S6 fun s7 J7 => ⟨_, _, adopt J7 hz4 hd4 n0 nP, hyes rfl a na⟩
      | brk =>
        obtain ⟨σ6, H6, S6, q6⟩ := hsp
        exact q6.elim
      | cont =>
        obtain ⟨σ6, H6, S6, q6⟩ := hsp
        exact q6.elim
      | ret u =>
        obtain ⟨v6, σ6, H6, S6, r6, q6⟩ := hsp
        exact q6.elim
    | false =>
      show wpAny _ X.A (handleBy (.ref a) X.env []) _ _ _
      refine wpAny_handleBy_nil ?_
      obtain ⟨k1, k2, k3, oe, vs, T, oT, ts', he, hz, hd, h1, hr⟩ := id fl3
      unfold PySem.passOn
      refine wpAny_bind (wpAny_field he hd h1 ?_)
      rw [if_neg (show ¬ ((Value.ref T == Value.none) = true) from by simp)]
      have fin : wpAny (model X.prog X.w) X.A (setFlight (.ref a) X.env.frame) (fun _ s4 => wpAny (model X.prog X.w) X.A (throw (.ref a) : Sem Flow) (SP X pins D) X.xe s4) X.xe { s' with heap := h3 } := by
        rw [hf]
        refine HandSPX.setFlight_upZ fl3 fun h4 hh4 up4 => wpAny_throw (tk _ _ ?_)
        exact ⟨a, B, sI, pins, σ', H', cls, d, rfl, J, nb, (up.trans up3).trans up4, .inr (.inr (by rw [hs]; exact hh4)), na, os, ag, hno rfl⟩
      first
        | exact wpAny_bind (wpAny_pure (wpAny_bind fin))
        | exact wpAny_bind fin
  · cases f with
    | next =>
      obtain ⟨σ', H', J', q⟩ := hsp
      exact wpAny_execs_nil ⟨σ', H', J'.ofTry ok, q⟩
    | brk =>
      obtain ⟨σ', H', J', q⟩ := hsp
      exact ⟨σ', H', J'.ofTry ok, q⟩
    | cont =>
      obtain ⟨σ', H', J', q⟩ := hsp
      exact ⟨σ', H', J'.ofTry ok, q⟩
    | ret u =>
      obtain ⟨v, σ', H', J', r, q⟩ := hsp
      exact ⟨v, σ', H', J'.ofTry ok, r, q⟩
end
end Far

namespace Far
open PySem PySem.Spec PySem.Calls PyProof.Rows L2 PySem.W
section
variable {prog : Program} {w : World} {A : Around} {E : Value → Shared → Prop} {s : Shared} {K : Frag} {x D : Addr} {ox : Obj} {od : Option Obj}
theorem obj_data {C : Addr} {name : Str} {a g : Value} (hc : (clsIn K C).isSome = true) (ha : findIn K (.ref C) name = some (some a)) (hg : specialIn K a "__get__" = some (some g)) (ht : takesIn K a = some true) : findObj K C od name = some (.bind g a) := by
  obtain ⟨cd, hc⟩ := Option.isSome_iff_exists.mp hc
  unfold findObj
  rw [hc, Option.bind_some, ha, Option.bind_some]
  simp [hg, ht]
/-- the class of an own error that has a dict of its own -/
theorem cls_of_own {Q : Option Value → Shared → Prop} (T : ExcC K D) (X : K.In s.heap) (I : InstAt s.heap x ox D od) (h : Q (some (.ref D)) { s with toks := s.toks + 1 }) : wpAny (model prog w) A (getAttr? (.ref x) "__class__") Q E s := by
  have hf : findObj K D od "__class__" = some (.bind (.builtin "getset_descriptor.__get__") (.builtin "object.__class__")) := obj_data (by obtain ⟨cd, hc, _⟩ := any_some T.hd; rw [hc]; rfl) T.ha T.hn T.ht
  obtain ⟨hp, g, d, t, os⟩ := s
  have L0 := I.type (M := model prog w)
  have L1 := looks_findIn (M := model prog w) X T.hg
  have L2 := looks_findIn (M := model prog w) X T.hk
  have L3 := looks_find (M := model prog w) X I hf
  have sub : Looks (model prog w) hp (isInstance (.ref x) (.type "BaseException")) true := L0.andThen (looks_subIn X T.hs)
  have n0 : (false && onTheHeap (Value.builtin "BaseException.__getattribute__")) = false := rfl
  have n2 : (Value.builtin "BaseException.__getattribute__" == Value.builtin "object.__getattribute__") = false := by decide +kernel
  have n1 : (onTheHeap (Value.ref D) && Value.builtin "BaseException.__getattribute__" == Value.builtin "object.__getattribute__") = false := by rw [n2]; rfl
  unfold getAttr? getAttrBy? getAttrBy
  refine wpAny_bind (wpAny_mkText (wpAny_bind (wpAny_attempt (wpAny_holding (wpAny_bind (L0.at (wpAny_bind (L1.at ?_))))))))
  show wpAny _ _ (if (onTheHeap (Value.ref D) && Value.builtin "BaseException.__getattribute__" == Value.builtin "object.__getattribute__") = true then _ else _) _ _ _
  rw [n1, if_neg Bool.false_ne_true]
  unfold getAttrByItsOwn hookBefore
  refine wpAny_bind ?_
  rw [if_pos (show onTheHeap (Value.ref D) = true from rfl)]
  refine L2.at ?_
  refine wpAny_bind (wpAny_attempt (wpAny_holding ?_))
  unfold callGetattribute
  rw [n0, if_neg Bool.false_ne_true]
  unfold boundAndCalled
  rw [PySem.F.excAttr_ValueError.ga.bind (.ref x)]
  refine wpAny_bind (wpAny_pure ?_)
  show wpAny _ _ (call (.builtin "BaseException.__getattribute__") [.ref x, .str "__class__" t]) _ _ _
  refine wpAny_call (codeAny_call_builtin PySem.F.excAttr_ValueError.ga.plain PySem.F.entry_bexc_ga ?_)
  refine @check_slot (model prog w) _ _ ⟨hp, g, d, t + 1, os⟩ "BaseException.__getattribute__" "BaseException" "__getattribute__" (.ref x) [.str "__class__" t] [] _ (by decide +kernel) (by decide +kernel) sub (PySem.F.args_bexc_ga (.ref x) (.str "__class__" t)) ?_
  unfold Builtin.«object.__getattribute__»
  refine wpAny_bind (wpAny_of_eq (a := ((Value.ref x : Value), [Value.str "__class__" t])) (by first | rfl | (simp only [slotArgs]; rfl)) ?_)
  refine wpAny_bind (wpAny_pure (wpAny_bind (L0.at (wpAny_bind (L3.at ?_)))))
  show wpAny _ _ (holding [Value.builtin "object.__class__"] (call (.builtin "getset_descriptor.__get__") [.builtin "object.__class__", .ref x, .ref D]) >>= ret) _ _ _
  refine wpAny_bind (wpAny_holding (wpAny_call (class_get (s := ⟨hp, g, d, t + 1, os⟩) (ox := ox) (od := od) X I T.hm ?_)))
  refine wpAny_pure ?_
  show wpAny _ _ (handedOut (.ref D)) _ _ _
  rw [handedOut_of (v := .ref D) rfl]
  first
    | exact wpAny_pure (wpAny_pure h)
    | exact wpAny_pure h
    | exact wpAny_pure (wpAny_bind (wpAny_pure (wpAny_pure h)))
theorem kitx_own (T : ExcC K D) : KitX K (.ref x) (.ref D) (fun h => InstAt h x ox D od) where
  ty := fun _ _ _ I => I.type
  it := fun _ _ X _ => by
    obtain ⟨cdD, hcD, _⟩ := any_some T.hd
    unfold clsIn at hcD
    split at hcD
    · rename_i c' d' cd' sl' ho
      intro A' Q' E' s' k q
      unfold isType loadHead
      exact wpAny_bind (wpAny_loadPart (k _ _ (X _ _ ho)) (wpAny_pure q))
    · cases hcD
  ne := fun h tp dd its n sl X htp => by
    obtain ⟨cdD, hcD, _⟩ := any_some T.hd
    refine Bool.eq_false_iff.mpr fun q => ?_
    have e : D = tp := Value.ref.inj (beq_iff_eq.mp q)
    subst e
    unfold clsIn at hcD
    split at hcD
    · rename_i c' d' cd' sl' ho
      have z := (X _ _ ho).symm.trans htp
      cases z
    · cases hcD
  ca := fun X I k => cls_of_own T X I k
end
/-- an error that was caught, of the class at D, with its own dict at dd -/
def Caught (H : Hp) (a D dd : Addr) (fs : List (Str × V)) : Prop := H a = some (caughtO a (.ref D) (some dd)) ∧ H dd = some (.xd fs)
theorem Caught.same {H H' : Hp} {a D dd : Addr} {fs : List (Str × V)} (c : Caught H a D dd fs) (s : Same H H') : Caught H' a D dd fs := ⟨s _ _ c.1, s _ _ c.2⟩
section
variable {X : Cx} {pins : List (Addr × Obj)} {σ : L2.St} {H : Hp} {s : Shared}
theorem Caught.inst {a D dd : Addr} {fs : List (Str × V)} (c : Caught H a D dd fs) (I : Inv X pins σ H s) : ∃ (oe od : Obj) (mA : Str → Option Value), InstAt s.heap a oe D (some od) ∧ s.heap.get? dd = some od ∧ (∀ f, RelO (fs.lookup f) (mA f)) ∧ (∀ f, lookIn f od = some (mA f)) := by
  obtain ⟨oe, vs, ha, hz, hd⟩ := caughtO_at I.hok c.1
  have hx : ObjOk X.prog X.w H s.heap dd (.xd fs) := I.hok dd _ c.2
  obtain ⟨mA, hns, hr⟩ := hx
  obtain ⟨od, ho, hl⟩ := lookIn_ns hns
  exact ⟨oe, od, mA, ⟨ha, hz.1, by unfold PySem.W.notCls; rw [hd] <;> rfl, by rw [hz.2]; exact ho⟩, ho, hr, hl⟩
/-- isinstance(e, c), e a caught error that a name holds -/
def rIsC (K : PySem.W.Frag) : List V → Hp → VK → Prop := fun xs H Q => ∃ (a D dd : Addr) (fs : List (Str × V)) (c : V) (cv : Value) (b : Bool), xs = [.ref a, c] ∧ Caught H a D dd fs ∧ ExcC K D ∧ ClsV c cv ∧ PySem.W.kitOne K (.ref D) cv = some b ∧ Q (.bl b) H
theorem call_isC {X : Cx} {K : PySem.W.Frag} (eK : X.K = K := by rfl) : CallR X (.builtin "isinstance") (rIsC K) := by
  subst eK
  intro pins s σ H xs us Q I r h
  obtain ⟨a, D, dd, fs, c, cv, b, rfl, hC, T, k, e, q⟩ := h
  obtain ⟨u1, u2, rfl, r1, r2⟩ := vals2 r
  have e2 := k.eq r2
  subst e2
  cases (show u1 = Value.ref a from r1)
  obtain ⟨oe, od, mA, J, _⟩ := hC.inst I
  exact PySem.W.kia_one (kitx_own T) I.kIn J e (fun z => nomatch z) fun tk => ⟨.bl b, H, I.kept (t' := tk) fun _ _ z => z, rfl, q⟩
/-- e.f, e a caught error that a name holds -/
def tCf (K : PySem.W.Frag) (f : Str) (te : TE) : TE := fun σ H Q => te σ H fun x H1 => ∃ (a D dd : Addr) (fs : List (Str × V)) (v : V), x = .ref a ∧ Caught H1 a D dd fs ∧ XfC K D ∧ PySem.W.findIn K (.ref D) f = some none ∧ fs.lookup f = some v ∧ Q v H1
theorem pe_cf {X : Cx} {e : Expr} {te : TE} {pos : Pos} {n : Str} (he : PE X e te) (hb : attributeBase e n X.env (eval e X.env) = eval e X.env := by rfl) : PE X (.Attribute e n pos) (tCf X.K n te) := by
  refine ⟨fun pins s σ H Q I h => ?_⟩
  refine attr_of hb (thn (he.run pins s σ H _ I h) fun u s1 hh => ?_)
  obtain ⟨x, H1, I1, rx, a, D, dd, fs, v, ex, hC, T, hno, l, q⟩ := hh
  subst ex
  obtain rfl : u = Value.ref a := rx
  obtain ⟨oe, od, mA, J, ho, hr, hl⟩ := hC.inst I1
  obtain ⟨u, hu, ru⟩ := RelO.some_of (v := v) (o := mA n) (by rw [← l]; exact hr n)
  exact HandSPX.exc_get I1.kIn J T.ga T.gg T.exC (PySem.W.findObj_own T.hdC hno rfl (by rw [hl, hu])) (handed_of ru) ⟨v, H1, I1.tok _, ru, q⟩
end
end Far

namespace Far
open PySem PySem.Spec PyProof.Rows L2
open C8 (pss_cut tCut)
open SX (S)
/-! ### rows of a text -/
def joinW (ws : List Nm) : Nm := TL.joinL [32] ws
def numW (k : Int) : Nm := TL.numL k.toNat
def rowT (t : Tie) : Nm := joinW [t.1, t.2.1, numW t.2.2]
theorem joinL_len (s : Nm) : ∀ ys : List Nm, (TL.joinL s ys).length ≤ (ys.map (·.length)).sum + ys.length * s.length
  | [] => by simp [TL.joinL]
  | [x] => by simp [TL.joinL]
  | x :: y :: r => by
    have ih := joinL_len s (y :: r)
    show (x ++ (s ++ TL.joinL s (y :: r))).length ≤ _
    rw [List.length_append, List.length_append, List.map_cons, List.sum_cons, List.length_cons, Nat.succ_mul]
    omega
theorem sum_le {B : Nat} : ∀ {ys : List Nm}, (∀ y ∈ ys, y.length ≤ B) → (ys.map (·.length)).sum ≤ ys.length * B
  | [], _ => Nat.zero_le _
  | y :: r, h => by
    have ih := sum_le (ys := r) fun z hz => h z (List.mem_cons.mpr (.inr hz))
    have := h y (List.mem_cons.mpr (.inl rfl))
    rw [List.map_cons, List.sum_cons, List.length_cons, Nat.succ_mul]
    omega
theorem blank_is : (" " : Str) = S [32] := by decide +kernel
theorem feed_is : ("\n" : Str) = S [10] := by decide +kernel
theorem name_no {l : Nm} (h : NameOk l) {c : Nat} (hc : c < 97) : c ∉ l := fun hm => by
  have := h.2.2 c hm
  omega
theorem split_words {ws : List Nm} (hne : ws ≠ []) (h : ∀ p ∈ ws, 32 ∉ p) : Txt.split (S (joinW ws)) (" " : Str) = ws.map S := by
  rw [blank_is, SX.split_S (by simp) (by decide)]
  unfold joinW
  rw [SX.spl_join hne h]
theorem num_digits (k : Int) : ∀ c ∈ numW k, 48 ≤ c ∧ c ≤ 57 := fun c hc => TL.numL_digits k.toNat c hc
theorem num_no {k : Int} {c : Nat} (h : c < 48) : c ∉ numW k := fun hm => by
  have := num_digits k c hm
  omega
theorem numL_head : ∀ n : Nat, 0 < n → (TL.numL n).head? ≠ some 48 := by
  intro n
  induction n using Nat.strongRecOn with
  | _ n ih =>
    intro h
    by_cases h10 : n < 10
    · rw [TL.numL_lt h10]
      simp
      omega
    · rw [TL.numL_step (by omega)]
      have := ih (n / 10) (by omega) (by omega)
      cases e : TL.numL (n / 10) with
      | nil => exact absurd e (TL.numL_ne _)
      | cons c r =>
        rw [e] at this
        simpa using this
theorem num_isLen {k : Int} (h : 1 ≤ k) : isLen (numW k) = true := by
  unfold isLen numW
  rw [decide_eq_false (TL.numL_ne _), decide_eq_false (numL_head _ (by omega))]
  rw [Bool.or_false, Bool.not_false, Bool.true_and, List.all_eq_true]
  intro c hc
  have := TL.numL_digits k.toNat c hc
  rw [Bool.and_eq_true]
  exact ⟨decide_eq_true this.1, decide_eq_true this.2⟩
theorem num_len {k : Int} (h : k ≤ 1000000) : (numW k).length ≤ 7 := TL.numL_len (by decide) (by
  have : (10 : Nat) ^ 7 = 10000000 := by decide
  omega)
theorem num_int {k : Int} (h : 1 ≤ k) (h2 : k ≤ 1000000) : PySem.intText? (S (numW k)) = some k := by
  have e := SX.int_S (a := numW k) (List.all_eq_true.mpr fun c hc => by
    have := num_digits k c hc
    rw [Bool.and_eq_true]
    exact ⟨decide_eq_true this.1, decide_eq_true this.2⟩) (TL.numL_ne _) (by have := num_len h2; omega)
  rw [e]
  unfold numW
  rw [TL.numL_val]
  congr 1
  omega
theorem count_one {l : Nm} : ∀ {pl : List Nm}, pl.Nodup → (((pl.map S).map V.str).countP fun z => eqV z (.str (S l))) ≤ 1
  | [], _ => Nat.zero_le _
  | a :: r, h => by
    obtain ⟨h1, h2⟩ := List.nodup_cons.mp h
    have ih := count_one (l := l) h2
    rw [List.map_cons, List.map_cons, List.countP_cons]
    by_cases e : a = l
    · subst e
      have : (((r.map S).map V.str).countP fun z => eqV z (.str (S a))) = 0 := by
        rw [List.countP_eq_zero]
        intro z hz
        obtain ⟨b, hb, rfl⟩ := strs_at hz
        show ¬ (S b == S a) = true
        rw [SX.S_beq_eq]
        intro q
        exact h1 (of_decide_eq_true q ▸ hb)
      rw [this]
      split <;> omega
    · have : (eqV (V.str (S a)) (.str (S l))) = false := by
        show (S a == S l) = false
        rw [SX.S_beq_eq]
        exact decide_eq_false e
      rw [this]
      simpa using ih
/-! ### the parts of a tree's reading: each place's mark -/
def partsK (pl : List Nm) (mk : Nm → Nm) : List (Key × V) := pl.map fun l => (Sum.inr (S l), V.str (S (mk l)))
theorem key_eq (a b : Nm) : decide ((Sum.inr (S a) : Key) = Sum.inr (S b)) = decide (a = b) := by
  by_cases h : a = b
  · rw [h, decide_eq_true rfl, decide_eq_true rfl]
  · rw [decide_eq_false h]
    exact decide_eq_false fun z => h (SX.S_inj (Sum.inr.inj z))
theorem parts_get {mk : Nm → Nm} {x : Nm} : ∀ {pl : List Nm}, x ∈ pl → valV (partsK pl mk) (Sum.inr (S x)) = some (.str (S (mk x)))
  | [], h => by simp at h
  | a :: r, h => by
    show valV ((Sum.inr (S a), V.str (S (mk a))) :: partsK r mk) _ = _
    by_cases e : a = x
    · subst e
      exact valV_pos rfl
    · rw [valV_neg (fun z => e (SX.S_inj (Sum.inr.inj z)))]
      refine parts_get ?_
      rcases List.mem_cons.mp h with z | z
      · exact absurd z.symm e
      · exact z
theorem parts_no {mk : Nm → Nm} {x : Nm} : ∀ {pl : List Nm}, x ∉ pl → valV (partsK pl mk) (Sum.inr (S x)) = none
  | [], _ => rfl
  | a :: r, h => by
    show valV ((Sum.inr (S a), V.str (S (mk a))) :: partsK r mk) _ = _
    rw [valV_neg (fun z => h (List.mem_cons.mpr (.inl (SX.S_inj (Sum.inr.inj z)).symm)))]
    exact parts_no fun z => h (List.mem_cons.mpr (.inr z))
theorem parts_put {mk : Nm → Nm} {x y : Nm} {pl : List Nm} (h : x ∈ pl) : putK (partsK pl mk) (Sum.inr (S x)) (.str (S y)) = partsK pl (fun z => if z = x then y else mk z) := by
  unfold putK
  rw [valV_any, parts_get h, if_pos (show (some (V.str (S (mk x)))).isSome = true from rfl)]
  unfold partsK
  rw [List.map_map]
  refine List.map_congr_left fun a _ => ?_
  show (if (Sum.inr (S a) : Key) = Sum.inr (S x) then _ else _) = _
  by_cases e : a = x
  · subst e
    rw [if_pos rfl]
    show (_, _) = (_, V.str (S (if a = a then y else mk a)))
    rw [if_pos rfl]
  · rw [if_neg (fun z => e (SX.S_inj (Sum.inr.inj z)))]
    show (_, _) = (_, V.str (S (if a = x then y else mk a)))
    rw [if_neg e]
theorem parts_cong {mk mk' : Nm → Nm} {pl : List Nm} (h : ∀ x ∈ pl, mk x = mk' x) : partsK pl mk = partsK pl mk' :=
  List.map_congr_left fun a ha => by rw [h a ha]
def PartsAt (H : Hp) (d : Addr) (pl : List Nm) (mk : Nm → Nm) : Prop := H d = some (.dK (partsK pl mk))
abbrev s_read_places : Stmt := topS 9
abbrev N_read_places : List Str := ["row", "names", "name"]
theorem sc_read_places : FnScope N_read_places ["row"] (defScope s_read_places) := ⟨rfl, rfl, rfl, by decide +kernel, rfl, by decide +kernel, by decide +kernel⟩
abbrev s_read_tie : Stmt := topS 10
abbrev N_read_tie : List Str := ["row", "number", "parts", "words", "one", "other", "length"]
theorem sc_read_tie : FnScope N_read_tie ["row", "number", "parts"] (defScope s_read_tie) := ⟨rfl, rfl, rfl, by decide +kernel, rfl, by decide +kernel, by decide +kernel⟩
abbrev s_hang_together : Stmt := topS 11
abbrev N_hang_together : List Str := ["parts", "one", "other", "kept", "gone", "place"]
theorem sc_hang_together : FnScope N_hang_together ["parts", "one", "other"] (defScope s_hang_together) := ⟨rfl, rfl, rfl, by decide +kernel, rfl, by decide +kernel, by decide +kernel⟩
section
variable {P : Program} {w : World} {K : PySem.W.Frag} {mg : Str → Option Value} {base : Heap}
theorem same_new {H H1 : Hp} {p : Addr} {o : HO} (a : Same H H1) (n : H1 p = none) : Same H (upd H1 p o) := fun x u h => by
  rw [upd_ne (ne_of_none (a x u h) n)]
  exact a x u h
theorem same_put {H H1 : Hp} {p : Addr} {o : HO} (a : Same H H1) (n : H p = none) : Same H (upd H1 p o) := fun x u h => by
  rw [upd_ne (ne_of_none h n)]
  exact a x u h
def spPlaces : Sp := fun vs H Q _ => ∃ pl : List Nm, vs = [.str (S (joinW pl))] ∧ pl ≠ [] ∧ pl.Nodup ∧ (∀ l ∈ pl, NameOk l) ∧ pl.length ≤ 1000 ∧ ∀ (H' : Hp) (t : Addr), Same H H' → H t = none → H' t = some (.tup ((pl.map S).map V.str)) → Q (.ref t) H'
theorem ok_read_places {f : Addr} {fd : FuncData} (F : Fun K "_read_places" "_read_places" s_read_places f fd) (T : TxtP mg) (Cis_name : Cal P w K mg base 1 "is_name" spIsName) : FnOk P w K mg base CX0 2 f fd ["row"] spPlaces := by
  refine F.ok sc_read_places (fun vs H Q E h => ?_) (fun cdv A outer s H vs Q E hr h => ?_)
  · obtain ⟨pl, rfl, _⟩ := h
    rfl
  · obtain ⟨pl, rfl, hne, nd, ok, hl, q⟩ := h
    refine ⟨_, (pss_cons (ps_set (i := 1) sc_read_places.nd rfl (.inl rfl) (pe_split (pv 0) pe_str))
      (pss_cut (ps_for PassesOwn.never rfl (pi_list (pv 1)) (pg_name (i := 2) sc_read_places.nd rfl (.inl rfl))
        (pss_one (ps_if (PW.pt (pw_or (pt_not (pt_val (pe_c Cis_name hr (by decide) rfl (pa_cons (pv 2) pa_nil)))) (pw_or1 (pt_cmpR op_gt (pe_bm PySem.F.plainAttrs_list PySem.F.slot_list_count PySem.F.type_list_count mt_countV (pv 1) (pa_cons (pv 2) pa_nil)) pe_int (nomark _)))))
          (pss_one ps_never)
          pss_nil)))
      (pss_one (ps_ret (pe_tupleOf (by rfl) T.tuple (pv 1)))))), ?_⟩
    have lw : (joinW pl).length ≤ 9000 := by
      have h1 := joinL_len [32] pl
      have h2 := sum_le (B := 8) fun y hy => (ok y hy).2.1
      have h3 : ([32] : Nm).length = 1 := rfl
      rw [h3] at h1
      unfold joinW
      omega
    refine ⟨_, rfl, ⟨_, rfl⟩, _, _, rfl, rfl, by decide +kernel, by rw [SX.S_len]; exact Nat.le_trans (show _ ≤ 100000 by omega) (by decide), fun p np => ?_⟩
    rw [split_words hne fun x hx => name_no (ok x hx) (by decide)]
    refine ⟨fun σ' H' => ∃ x2, σ' = [some (.str (S (joinW pl))), some (.ref p), x2] ∧ Same H H' ∧ H' p = some (.lst ((pl.map S).map V.str)), ?_, fun σ' H' hM => ?_⟩
    · refine ⟨_, rfl, p, rfl, ⟨_, SqL.of upd_same⟩, for_list (K := K) (a := p) (xs := (pl.map S).map V.str) (fun i σ' H' => ∃ x2, σ' = [some (.str (S (joinW pl))), some (.ref p), x2] ∧ Same H H' ∧ H' p = some (.lst ((pl.map S).map V.str))) ⟨none, rfl, same_new (Same.refl H) np, upd_same⟩ (fun i σ' H' _ hP => ?_) (fun i x σ' H' hi hP => ?_) (fun σ' H' hP => ?_)⟩
      · obtain ⟨_, _, _, hp⟩ := hP
        exact SqL.of hp
      · obtain ⟨x2, rfl, sm, hp⟩ := hP
        obtain ⟨l, hl', rfl⟩ := strs_at (List.mem_of_getElem? hi)
        have okl := ok l hl'
        refine ⟨_, rfl, l, rfl, by have := okl.2.1; omega, fun H1 S1 => ?_⟩
        rw [isName_iff.mpr okl]
        refine ⟨_, rfl, iteF ?_⟩
        have hp1 := S1 _ _ hp
        refine ⟨_, rfl, .inl ⟨rfl, _, SqL.of hp1⟩, _, rfl, p, _, .str (S l), rfl, rfl, SqL.of hp1, rfl, flat_strs pl, _, _, rfl, rfl, _, rfl, ?_⟩
        have c1 := count_one (l := l) nd
        rw [decide_eq_false (by omega)]
        exact iteF ⟨_, rfl, sm.trans S1, hp1⟩
      · exact hP
    · obtain ⟨x2, rfl, sm, hp⟩ := hM
      refine ⟨_, rfl, .inl ⟨p, _, rfl, SqL.of hp, fun t nt => q _ t (same_new sm nt) (sm.free nt) upd_same⟩⟩
/-- what the written part says of NoTree (at C), of its __init__ (at fI) and of FarError (at CF) -/
structure NtC (K : PySem.W.Frag) (mg : Str → Option Value) (C fI CF : Addr) : Prop where
  oex : OexC K C
  iC : PySem.W.findIn K (.ref C) "__init__" = some (some (.ref fI))
  tI : PySem.W.typeIn K (.ref fI) = some (.type "function")
  xf : XfC K C
  exc : ExcC K C
  no : PySem.W.findIn K (.ref C) "row" = some none
  gC : mg "NoTree" = some (.ref C)
  gF : mg "FarError" = some (.ref CF)
  rd : PySem.W.readsIn K CF (.type "type") = true
  ga : PySem.W.specialIn K (.ref CF) "__getattribute__" = some (some (.builtin "type.__getattribute__"))
  vF : PySem.W.findCls K (.ref CF) (.type "type") "__init__" = some (.val (.builtin "ValueError.__init__"))
def clsBody (s : Stmt) : List Stmt := match s with
  | .ClassDef _ _ _ b _ _ _ _ _ _ _ => b
  | _ => []
abbrev s_nt_init : Stmt := (clsBody (topS 2)).getD 0 (.Pass ⟨0, 0, 0, 0⟩)
abbrev N_nt_init : List Str := ["self", "row"]
theorem sc_nt_init : FnScope N_nt_init ["self", "row"] (defScope s_nt_init) := ⟨rfl, rfl, rfl, by decide +kernel, rfl, by decide +kernel, by decide +kernel⟩
section
variable {C fI CF : Addr}
def spInitT (K : PySem.W.Frag) (C : Addr) : Sp := fun vs H Q _ => ∃ (a : Addr) (n : Int), vs = [.ref a, .int n] ∧ 0 ≤ n ∧ n ≤ 100000 ∧ H a = some (exo a C none) ∧ ∀ d : Addr, H d = none → d ≠ a → Q .non (upd (upd H d (exd d [("row", .int n)])) a (exo a C (some d)))
theorem ok_nt_init (T : NtC K mg C fI CF) {fd : FuncData} (F : Fun K "__init__" "NoTree.__init__" s_nt_init fI fd) : FnOk P w K mg base (L2.CX P w) 1 fI fd ["self", "row"] (spInitT K C) := by
  refine F.okX sc_nt_init (fun vs H Q E h => ?_) (fun cdv A outer s H vs Q E hr h => ?_)
  · obtain ⟨a, n, rfl, _⟩ := h
    rfl
  · obtain ⟨a, n, rfl, n0, n1, ha, q⟩ := h
    refine ⟨_, (pss_cons (ps_expr (pe_owninit (by rfl) T.gF T.rd T.ga T.vF (pa_cons (pv 0) (pa_cons (pe_joined (.cons pe_str (.cons (pe_fmt (pv 1)) (.cons pe_str .nil)))) pa_nil)))) (pss_one (ps_ost (pv 0) (pv 1)))), ?_⟩
    have ek : (toString n : String) = toString ((n.toNat : Nat) : Int) := by
      congr 1
      omega
    have en : Str.ofString (toString n) = S (numW n) := by
      rw [ek]
      exact SX.num_S _
    have ln := num_len (k := n) (by omega)
    have lb : n.natAbs.log2 < 1920 := Nat.lt_trans (PySem.Flt.log2_lt_of (k := 20) (by decide) (by
      have : (2 : Nat) ^ 20 = 1048576 := by decide
      omega)) (by decide)
    have l0 : (Str.empty ++ Str.ofString "row ").length = 4 := by decide +kernel
    have l2 : (Str.ofString " is wrong").length = 9 := by decide +kernel
    have l1 : (Str.empty ++ Str.ofString "row " ++ S (numW n)).length ≤ 11 := by
      rw [PySem.Str.length_append, l0, SX.S_len]
      omega
    refine ⟨_, rfl, _, rfl, by decide +kernel, _, rfl, .inr ⟨n, rfl, lb, S (numW n), congrArg V.str en, Nat.le_trans l1 (by decide), _, rfl, ?_, ?_⟩⟩
    · rw [PySem.Str.length_append, l2]
      exact Nat.le_trans (Nat.add_le_add_right l1 9) (by decide)
    · refine ⟨a, C, _, rfl, (by show 1 ≤ 1000; decide), T.oex, ha, ?_⟩
      exact ⟨_, rfl, _, rfl, a, C, rfl, T.oex, T.no, .inl ⟨ha, fun d nd de => q d nd de⟩⟩
/-- a def that may raise, by its promise -/
structure CalX (P : Program) (w : World) (K : PySem.W.Frag) (mg : Str → Option Value) (base : Heap) (k : Nat) (x : Str) (sp : Sp) : Prop where
  ex : ∃ (f : Addr) (fd : FuncData) (ps : List Str), FnOk P w K mg base (L2.CX P w) k f fd ps sp ∧ mg x = some (.ref f) ∧ PySem.W.keepIn K (.ref f) = true ∧ Binds K fd ps []
theorem pe_cX {X : Cx} {W : WX} {k j : Nat} {x : Str} {sp : Sp} {p pos : Pos} {e : Expr} {es : List Expr} {t : TA} (tk : Takes X W) (c : CalX X.prog X.w X.K X.mg X.base k x sp) (hr : Room j X.A) (hk : k ≤ j) (hg : Gl X x) (ha : PA X (e :: es) t)
    (hdb : (x == ("__debug__" : Str)) = false := by decide) (he : starEach (e :: es) X.env = (false, eval e X.env) :: starEach es X.env := by rfl) (hpl : (backTo pos (starEach es X.env)).any (·.1) = false := by rfl) :
    PE X (.Call (.Name x p) (e :: es) [] pos) (tCallS sp (WE W) t) := by
  obtain ⟨f, fd, ps, F, hm, kp, b⟩ := c.ex
  exact pe_callS F (hr.mono hk) hg hm kp b (fun σ => passAt tk σ) ha hdb he hpl
theorem raised {σ : L2.St} {H1 : Hp} {n : Int} {E : XK} {t : TA} (hs : ∀ Q : List V → Hp → Prop, Q [.int n] H1 → t σ H1 Q) (n0 : 0 ≤ n) (n1 : n ≤ 100000) (hE : ∀ (H' : Hp) (dx : Addr), Same H1 H' → H' dx = some (.xd [("row", .int n)]) → E (.ref C) (some dx) H') :
    tMkO C (spInitT K C) [] t σ H1 fun cls d H' => E cls d H' := by
  refine hs _ ⟨(by show 1 ≤ 1000; decide), fun e ne => ?_⟩
  refine ⟨e, n, rfl, n0, n1, upd_same, fun d nd de => ⟨rfl, d, _, upd_same, by rw [upd_ne de, upd_same], ?_, ?_⟩⟩
  · rw [upd_ne de] at nd
    exact nd
  · refine hE _ d ?_ upd_same
    intro b o hb
    have ba : b ≠ e := ne_of_none hb ne
    have bd : b ≠ d := fun z => by
      rw [upd_ne de, ← z] at nd
      rw [hb] at nd
      cases nd
    rw [upd_ne bd, del_ne ba, upd_ne ba, upd_ne bd, upd_ne ba]
    exact hb
/-- a tie that may stand behind such ties -/
def OkTie (pl : List Nm) (mk : Nm → Nm) (t : Tie) : Prop := t.1 ∈ pl ∧ t.2.1 ∈ pl ∧ mk t.1 ≠ mk t.2.1
def spTieX (C : Addr) : Sp := fun vs H Q E => ∃ (t : Tie) (n : Int) (d : Addr) (pl : List Nm) (mk : Nm → Nm), vs = [.str (S (rowT t)), .int n, .ref d] ∧ PartsAt H d pl mk ∧ NameOk t.1 ∧ NameOk t.2.1 ∧ 1 ≤ t.2.2 ∧ t.2.2 ≤ 1000000 ∧ 0 ≤ n ∧ n ≤ 100000 ∧
  (OkTie pl mk t → ∀ (H' : Hp) (q : Addr), Same H H' → H q = none → H' q = some (.tup [.str (S t.1), .str (S t.2.1), .int t.2.2]) → Q (.ref q) H') ∧
  (¬ OkTie pl mk t → ∀ (H' : Hp) (dx : Addr), Same H H' → H' dx = some (.xd [("row", .int n)]) → E (.ref C) (some dx) H')
theorem ok_read_tie {f : Addr} {fd fdi : FuncData} (TN : NtC K mg C fI CF) (Fi : FnOk P w K mg base (L2.CX P w) 1 fI fdi ["self", "row"] (spInitT K C)) (bi : Binds K fdi ["self", "row"] []) (F : Fun K "_read_tie" "_read_tie" s_read_tie f fd) (T : TxtP mg) (Cis_length : Cal P w K mg base 1 "is_length" spIsLen) : FnOk P w K mg base (L2.CX P w) 3 f fd ["row", "number", "parts"] (spTieX C) := by
  refine F.okX sc_read_tie (fun vs H Q E h => ?_) (fun cdv A outer s H vs Q E hr h => ?_)
  · obtain ⟨t, n, d, pl, mk, rfl, _⟩ := h
    rfl
  · obtain ⟨⟨a, b, k⟩, n, d, pl, mk, rfl, hD, oka, okb, k1, k2, n0, n1, q, qE⟩ := h
    dsimp only at oka okb k1 k2
    refine ⟨_, (pss_cons (ps_set (i := 3) sc_read_tie.nd rfl (.inl rfl) (pe_split (pv 0) pe_str))
      (pss_cut (ps_if (pt_cmpR op_ne (pe_callB call_len_seq (by rfl) T.len bt_len (pa_cons (pv 3) pa_nil)) pe_int (nomark _))
        (pss_one (ps_raise rfl (takes_of rfl rfl rfl rfl) (pmk_oex TN.oex TN.iC TN.tI Fi (hr.mono (by decide)) bi .nil passL (by rfl) TN.gC (pa_cons (pv 1) pa_nil))))
        pss_nil)
      (pss_cons (ps_asg (pv 3) (pg_unl rfl (pgs_cons (pg_name (i := 4) sc_read_tie.nd rfl (.inl rfl)) (pgs_cons (pg_name (i := 5) sc_read_tie.nd rfl (.inl rfl)) (pgs_cons (pg_name (i := 6) sc_read_tie.nd rfl (.inl rfl)) pgs_nil)))))
      (pss_cut (ps_if (PW.pt (pw_or (pt_cmp (pc_dnotin (hu_of hr) (pv 4) (pv 2))) (pw_or1 (pt_cmp (pc_dnotin (hu_of hr) (pv 5) (pv 2))))))
        (pss_one (ps_raise rfl (takes_of rfl rfl rfl rfl) (pmk_oex TN.oex TN.iC TN.tI Fi (hr.mono (by decide)) bi .nil passL (by rfl) TN.gC (pa_cons (pv 1) pa_nil))))
        pss_nil)
      (pss_cut (ps_if (PW.pt (pw_or (pt_not (pt_val (pe_c Cis_length hr (by decide) rfl (pa_cons (pv 6) pa_nil)))) (pw_or1 (pt_cmpR op_eq (pe_dget (hu_of hr) (pv 2) (pv 4) (fun _ _ => rfl)) (pe_dget (hu_of hr) (pv 2) (pv 5) (fun _ _ => rfl)) (nomark _)))))
        (pss_one (ps_raise rfl (takes_of rfl rfl rfl rfl) (pmk_oex TN.oex TN.iC TN.tI Fi (hr.mono (by decide)) bi .nil passL (by rfl) TN.gC (pa_cons (pv 1) pa_nil))))
        pss_nil)
      (pss_one (ps_ret (pe_tup (pa_cons (pv 4) (pa_cons (pv 5) (pa_cons (pe_callTy call_int_str (by rfl) T.int bt_int (pa_cons (pv 6) pa_nil)) pa_nil))))))))))), ?_⟩
    have ln := num_len k2
    have la := oka.2.1
    have lb := okb.2.1
    have lw : (rowT (a, b, k)).length ≤ 30 := by
      show (a ++ ([32] ++ (b ++ ([32] ++ numW k)))).length ≤ 30
      simp
      omega
    refine ⟨_, rfl, ⟨_, rfl⟩, _, _, rfl, rfl, by decide +kernel, by rw [SX.S_len]; exact Nat.le_trans (show _ ≤ 100000 by omega) (by decide), fun p np => ?_⟩
    have ep : Txt.split (S (rowT (a, b, k))) (" " : Str) = [a, b, numW k].map S := split_words (by simp) (fun x hx => by
      rcases List.mem_cons.mp hx with rfl | hx
      · exact name_no oka (by decide)
      · rcases List.mem_cons.mp hx with rfl | hx
        · exact name_no okb (by decide)
        · rw [List.mem_singleton.mp hx]
          exact num_no (by decide))
    rw [ep]
    have hp : (upd H p (.lst (([a, b, numW k].map S).map V.str))) p = some (.lst [.str (S a), .str (S b), .str (S (numW k))]) := upd_same
    have hD1 : PartsAt (upd H p (.lst (([a, b, numW k].map S).map V.str))) d pl mk := by
      unfold PartsAt
      rw [upd_ne (ne_of_none hD np)]
      exact hD
    generalize hH1 : upd H p (.lst (([a, b, numW k].map S).map V.str)) = H1 at hp hD1
    have S1 : Same H H1 := hH1 ▸ same_new (Same.refl H) np
    refine ⟨fun σ' H' => σ' = [some (.str (S (rowT (a, b, k)))), some (.int n), some (.ref d), some (.ref p), none, none, none] ∧ H' = H1, ?_, fun σ' H' hM => ?_⟩
    · exact ⟨_, rfl, p, _, rfl, .inl (SqL.of hp), rfl, _, rfl, iteF ⟨rfl, rfl⟩⟩
    · obtain ⟨rfl, rfl⟩ := hM
      refine ⟨_, rfl, p, _, rfl, SqL.of hp, rfl, _, _, rfl, _, _, rfl, _, _, rfl, rfl, ?_⟩
      refine ⟨fun σ' H'' => σ' = [some (.str (S (rowT (a, b, k)))), some (.int n), some (.ref d), some (.ref p), some (.str (S a)), some (.str (S b)), some (.str (S (numW k)))] ∧ H'' = H' ∧ a ∈ pl ∧ b ∈ pl, ?_, fun σ' H'' hM => ?_⟩
      · refine ⟨_, rfl, _, rfl, d, _, rfl, DGet.k (k := Sum.inr (S a)) hD1, _, rfl, ?_⟩
        by_cases ha : a ∈ pl
        · rw [parts_get ha]
          refine iteF ⟨_, rfl, _, rfl, d, _, rfl, DGet.k (k := Sum.inr (S b)) hD1, _, rfl, ?_⟩
          by_cases hb : b ∈ pl
          · rw [parts_get hb]
            exact iteF ⟨rfl, rfl, ha, hb⟩
          · rw [parts_no hb]
            refine iteT ?_
            refine raised (fun Q h => ⟨_, rfl, h⟩) n0 n1 fun H2 dx S2 hx => qE (fun z => hb z.2.1) H2 dx (S1.trans S2) hx
        · rw [parts_no ha]
          refine iteT (iteT ?_)
          refine raised (fun Q h => ⟨_, rfl, h⟩) n0 n1 fun H2 dx S2 hx => qE (fun z => ha z.1) H2 dx (S1.trans S2) hx
      · obtain ⟨rfl, rfl, ha, hb⟩ := hM
        refine ⟨fun σ' H1 => σ' = [some (.str (S (rowT (a, b, k)))), some (.int n), some (.ref d), some (.ref p), some (.str (S a)), some (.str (S b)), some (.str (S (numW k)))] ∧ Same H H1 ∧ mk a ≠ mk b, ?_, fun σ' H1 hM => ?_⟩
        · refine ⟨_, rfl, numW k, rfl, by omega, fun H2 S2 => ?_⟩
          rw [num_isLen k1]
          have hD2 : PartsAt H2 d pl mk := S2 _ _ hD1
          refine ⟨_, rfl, iteF ⟨_, rfl, _, rfl, d, _, rfl, by rw [← parts_get ha]; exact DGet.k (k := Sum.inr (S a)) hD2, _, rfl, _, rfl, d, _, rfl, by rw [← parts_get hb]; exact DGet.k (k := Sum.inr (S b)) hD2, rfl, _, rfl, ?_⟩⟩
          by_cases hne : mk a = mk b
          · rw [hne, decide_eq_true rfl]
            refine iteT ?_
            refine raised (fun Q h => ⟨_, rfl, h⟩) n0 n1 fun H3 dx S3 hx => qE (fun z => z.2.2 hne) H3 dx ((S1.trans S2).trans S3) hx
          · rw [decide_eq_false (fun z => hne (SX.S_inj (V.str.inj z)))]
            exact iteF ⟨rfl, S1.trans S2, hne⟩
        · obtain ⟨rfl, S2, hne⟩ := hM
          refine ⟨_, rfl, _, rfl, _, rfl, S (numW k), k, rfl, num_int k1 k2, by rw [SX.S_len]; omega, (by show 3 ≤ sizeLine; decide), fun t nt => ?_⟩
          exact q ⟨ha, hb, hne⟩ _ t (same_new S2 nt) (S2.free nt) upd_same
end
/-- the part of other has the mark of the part of one -/
def merged (mk : Nm → Nm) (a b : Nm) : Nm → Nm := fun x => if mk x = mk b then mk a else mk x
def spHang : Sp := fun vs H Q _ => ∃ (d : Addr) (pl : List Nm) (mk : Nm → Nm) (a b : Nm), vs = [.ref d, .str (S a), .str (S b)] ∧ PartsAt H d pl mk ∧ pl.Nodup ∧ pl.length ≤ 1000 ∧ a ∈ pl ∧ b ∈ pl ∧
  ∀ H' : Hp, SmX d H H' → PartsAt H' d pl (merged mk a b) → Q .non H'
theorem ok_hang {f : Addr} {fd : FuncData} (F : Fun K "_hang_together" "_hang_together" s_hang_together f fd) (T : TxtP mg) : FnOk P w K mg base CX0 1 f fd ["parts", "one", "other"] spHang := by
  refine F.ok sc_hang_together (fun vs H Q E h => ?_) (fun cdv A outer s H vs Q E hr h => ?_)
  · obtain ⟨d, pl, mk, a, b, rfl, _⟩ := h
    rfl
  · obtain ⟨d, pl, mk, a, b, rfl, hD, nd, hl, ha, hb, q⟩ := h
    refine ⟨_, (pss_cons (ps_set (i := 3) sc_hang_together.nd rfl (.inl rfl) (pe_dget (hu_of hr) (pv 0) (pv 1) (fun _ _ => rfl)))
      (pss_cons (ps_set (i := 4) sc_hang_together.nd rfl (.inl rfl) (pe_dget (hu_of hr) (pv 0) (pv 2) (fun _ _ => rfl)))
      (pss_one (ps_for PassesOwn.never rfl (pi_list (pe_callTy (call_list_dK rfl) (by rfl) T.list bt_list (pa_cons (pv 0) pa_nil))) (pg_name (i := 5) sc_hang_together.nd rfl (.inl rfl))
        (pss_one (ps_if (pt_cmpR op_eq (pe_dget (hu_of hr) (pv 0) (pv 5) (fun _ _ => rfl)) (pv 4) (nomark _))
          (pss_one (ps_dput (hu_of hr) (pv 0) (pv 5) (pv 3) rfl))
          pss_nil)))))), ?_⟩
    refine ⟨_, rfl, _, rfl, d, _, rfl, by rw [← parts_get ha]; exact DGet.k (k := Sum.inr (S a)) hD, ?_⟩
    refine ⟨_, rfl, _, rfl, d, _, rfl, by rw [← parts_get hb]; exact DGet.k (k := Sum.inr (S b)) hD, ?_⟩
    refine ⟨_, rfl, d, _, rfl, hD, fun p np => ?_⟩
    have npd : p ≠ d := (ne_of_none hD np).symm
    have ek : (partsK pl mk).map (fun kv => kV kv.1) = (pl.map S).map V.str := by
      unfold partsK
      rw [List.map_map, List.map_map]
      rfl
    rw [ek]
    have lk : (partsK pl mk).length = pl.length := List.length_map _
    refine ⟨p, rfl, ⟨_, SqL.of upd_same⟩, for_list (K := K) (a := p) (xs := (pl.map S).map V.str) (fun i σ' H' => ∃ x5, σ' = [some (.ref d), some (.str (S a)), some (.str (S b)), some (.str (S (mk a))), some (.str (S (mk b))), x5] ∧ SmX d H H' ∧ H' p = some (.lst ((pl.map S).map V.str)) ∧ PartsAt H' d pl (fun x => if x ∈ pl.take i ∧ mk x = mk b then mk a else mk x))
      ⟨none, rfl, (SmX.refl H).new np, upd_same, ?_⟩ (fun i σ' H' _ hP => ?_) (fun i x σ' H' hi hP => ?_) (fun σ' H' hP => ?_)⟩
    · unfold PartsAt
      rw [upd_ne npd.symm, hD]
      exact congrArg (fun z => some (HO.dK z)) (parts_cong fun x _ => by simp)
    · obtain ⟨_, _, _, hp, _⟩ := hP
      exact SqL.of hp
    · obtain ⟨x5, rfl, sm, hp, hD'⟩ := hP
      have hi0 := hi
      rw [List.getElem?_map, List.getElem?_map] at hi
      cases el : pl[i]? with
      | none =>
        rw [el] at hi
        cases hi
      | some l =>
        rw [el] at hi
        have ex : x = .str (S l) := (Option.some.inj hi).symm
        subst ex
        have hl' : l ∈ pl := List.mem_of_getElem? el
        have ln : l ∉ pl.take i := fun hm => by
          obtain ⟨j, hj, ej⟩ := List.mem_take_iff_getElem.mp hm
          obtain ⟨hi', ei⟩ := List.getElem?_eq_some_iff.mp el
          have := (List.getElem_inj nd).mp (ej.trans ei.symm)
          omega
        have et : pl.take (i + 1) = pl.take i ++ [l] := by
          rw [List.take_add_one, el]
          rfl
        refine ⟨_, rfl, _, rfl, d, _, rfl, by rw [← parts_get hl']; exact DGet.k (k := Sum.inr (S l)) hD', _, rfl, rfl, _, rfl, ?_⟩
        rw [if_neg (fun z => ln z.1)]
        by_cases e : mk l = mk b
        · rw [e, decide_eq_true rfl]
          refine iteT ⟨_, rfl, _, rfl, _, rfl, d, _, rfl, DPut.k (k := Sum.inr (S l)) hD' (by show (partsK pl _).length < sizeLine; unfold partsK; rw [List.length_map]; exact sz_lt (by omega)), ?_⟩
          refine ⟨_, rfl, sm.mut, by rw [upd_ne npd]; exact hp, ?_⟩
          unfold PartsAt
          rw [upd_same, parts_put hl']
          congr 2
          refine parts_cong fun x _ => ?_
          rw [et]
          by_cases ex : x = l
          · subst ex
            rw [if_pos rfl, if_pos ⟨by simp, e⟩]
          · rw [if_neg ex]
            simp [ex]
        · rw [decide_eq_false (fun z => e (SX.S_inj (V.str.inj z)))]
          refine iteF ⟨_, rfl, sm, hp, ?_⟩
          unfold PartsAt at hD' ⊢
          rw [hD']
          congr 2
          refine parts_cong fun x _ => ?_
          rw [et]
          by_cases ex : x = l
          · subst ex
            rw [if_neg (fun z => e z.2), if_neg (fun z => e z.2)]
          · simp [ex]
    · obtain ⟨x5, rfl, sm, hp, hD'⟩ := hP
      refine q H' sm ?_
      unfold PartsAt at hD' ⊢
      rw [hD', List.length_map, List.length_map, List.take_length]
      congr 2
      refine parts_cong fun x hx => ?_
      unfold merged
      simp [hx]
end
end Far

namespace Far
open PySem PySem.Spec PyProof.Rows L2
open C8 (pss_cut tCut)
open SX (S)
/-! ### a tree's tie taken out leaves two sides -/
theorem snoc_split {α : Type} {es l r : List α} {e0 e : α} (h : es ++ [e0] = l ++ e :: r) : (r = [] ∧ es = l ∧ e0 = e) ∨ ∃ r', r = r' ++ [e0] ∧ es = l ++ e :: r' := by
  rcases List.eq_nil_or_concat r with hr | ⟨r', e1, hr⟩
  · subst hr
    have := List.append_inj' h rfl
    exact .inl ⟨rfl, this.1, (List.cons.inj this.2).1⟩
  · rw [List.concat_eq_append] at hr
    subst hr
    have h2 : es ++ [e0] = (l ++ e :: r') ++ [e1] := by
      rw [h]
      simp
    have := List.append_inj' h2 rfl
    have e2 := (List.cons.inj this.2).1
    subst e2
    exact .inr ⟨r', rfl, this.1⟩
theorem Grown.cut {os : List Nm} {es : List Tie} (h : Grown os es) : ∀ (l r : List Tie) (e : Tie), es = l ++ e :: r → ∃ f : Nm → Bool, (∀ x ∈ l ++ r, f x.1 = f x.2.1) ∧ f e.1 ≠ f e.2.1 := by
  induction h with
  | one a => intro l r e h; simp at h
  | @leaf os es a b k e0 g ha hb he0 k1 k2 ih =>
    intro l r e hs
    have inos := g.ties
    rcases snoc_split hs with ⟨hr, h1, h2⟩ | ⟨r', hr, h1⟩
    · subst hr h1 h2
      refine ⟨fun x => x == b, fun x hx => ?_, ?_⟩
      · rw [List.append_nil] at hx
        obtain ⟨i1, i2, _⟩ := inos x hx
        have n1 : (x.1 == b) = false := beq_eq_false_iff_ne.mpr fun z => hb (z ▸ i1)
        have n2 : (x.2.1 == b) = false := beq_eq_false_iff_ne.mpr fun z => hb (z ▸ i2)
        show (x.1 == b) = (x.2.1 == b)
        rw [n1, n2]
      · have na : (a == b) = false := beq_eq_false_iff_ne.mpr fun z => hb (z ▸ ha)
        rcases he0 with z | z <;> rw [z] <;> simp [na]
    · subst hr
      obtain ⟨f, hf, hne⟩ := ih l r' e h1
      have old : ∀ y : Nm, y ∈ os → (if y = b then f a else f y) = f y := fun y hy => if_neg fun (z : y = b) => hb (z ▸ hy)
      refine ⟨fun x => if x = b then f a else f x, fun x hx => ?_, ?_⟩
      · have hx : x ∈ l ++ r' ∨ x = e0 := by
          rw [← List.append_assoc] at hx
          rcases List.mem_append.mp hx with z | z
          · exact .inl z
          · exact .inr (List.mem_singleton.mp z)
        rcases hx with hx | rfl
        · have hm : x ∈ es := by
            rw [h1]
            rcases List.mem_append.mp hx with z | z
            · exact List.mem_append_left _ z
            · exact List.mem_append_right _ (List.mem_cons.mpr (.inr z))
          obtain ⟨i1, i2, _⟩ := inos x hm
          show (if x.1 = b then f a else f x.1) = (if x.2.1 = b then f a else f x.2.1)
          rw [old _ i1, old _ i2]
          exact hf x hx
        · rcases he0 with z | z <;> rw [z]
          · show (if a = b then f a else f a) = (if b = b then f a else f b)
            rw [old a ha, if_pos rfl]
          · show (if b = b then f a else f b) = (if a = b then f a else f a)
            rw [old a ha, if_pos rfl]
      · obtain ⟨i1, i2, _⟩ := inos e (by rw [h1]; simp)
        show (if e.1 = b then f a else f e.1) ≠ (if e.2.1 = b then f a else f e.2.1)
        rw [old _ i1, old _ i2]
        exact hne
theorem IsTree.cut {pl : List Nm} {ts l r : List Tie} {e : Tie} (h : IsTree pl ts) (hs : ts = l ++ e :: r) : ∃ f : Nm → Bool, (∀ x ∈ l ++ r, f x.1 = f x.2.1) ∧ f e.1 ≠ f e.2.1 := by
  obtain ⟨os, es, g, _, p⟩ := h
  have hm : e ∈ es := p.mem_iff.mp (by rw [hs]; simp)
  obtain ⟨l', r', he⟩ := List.append_of_mem hm
  obtain ⟨f, hf, hne⟩ := g.cut l' r' e he
  refine ⟨f, fun x hx => hf x ?_, hne⟩
  have q : (e :: (l ++ r)).Perm (e :: (l' ++ r')) := (List.perm_middle.symm.trans (by rw [← hs, ← he]; exact p)).trans List.perm_middle
  exact q.cons_inv.mem_iff.mp hx
/-- places that have one mark hang together by these ties -/
def MarkInv (done : List Tie) (pl : List Nm) (mk : Nm → Nm) : Prop := ∀ f : Nm → Bool, (∀ e ∈ done, f e.1 = f e.2.1) → ∀ x ∈ pl, f (mk x) = f x
theorem MarkInv.start (pl : List Nm) : MarkInv [] pl id := fun _ _ _ _ => rfl
theorem MarkInv.ne {pl : List Nm} {ts l r : List Tie} {e : Tie} {mk : Nm → Nm} (h : IsTree pl ts) (hs : ts = l ++ e :: r) (M : MarkInv l pl mk) : mk e.1 ≠ mk e.2.1 := fun z => by
  obtain ⟨f, hf, hne⟩ := h.cut hs
  obtain ⟨i1, i2, _⟩ := h.ties e (by rw [hs]; simp)
  have hl : ∀ x ∈ l, f x.1 = f x.2.1 := fun x hx => hf x (List.mem_append_left _ hx)
  exact hne (by rw [← M f hl _ i1, ← M f hl _ i2, z])
theorem MarkInv.next {pl : List Nm} {l : List Tie} {e : Tie} {mk : Nm → Nm} (M : MarkInv l pl mk) (i1 : e.1 ∈ pl) (i2 : e.2.1 ∈ pl) : MarkInv (l ++ [e]) pl (merged mk e.1 e.2.1) := fun f hf x hx => by
  have hl : ∀ y ∈ l, f y.1 = f y.2.1 := fun y hy => hf y (List.mem_append_left _ hy)
  unfold merged
  by_cases z : mk x = mk e.2.1
  · rw [if_pos z, M f hl _ i1, hf e (by simp), ← M f hl _ i2, ← z, M f hl x hx]
  · rw [if_neg z]
    exact M f hl x hx
/-! ### a tree's text -/
def rowsT (pl : List Nm) (ts : List Tie) : List Nm := joinW pl :: ts.map rowT
def textT (pl : List Nm) (ts : List Tie) : Nm := TL.joinL [10] (rowsT pl ts)
theorem joinL_mem {c : Nat} {s : Nm} : ∀ {ys : List Nm}, c ∈ TL.joinL s ys → c ∈ s ∨ ∃ y ∈ ys, c ∈ y
  | [], h => by simp [TL.joinL] at h
  | [x], h => .inr ⟨x, by simp, h⟩
  | x :: y :: r, h => by
    have h : c ∈ x ++ (s ++ TL.joinL s (y :: r)) := h
    rcases List.mem_append.mp h with z | z
    · exact .inr ⟨x, by simp, z⟩
    · rcases List.mem_append.mp z with z | z
      · exact .inl z
      · rcases joinL_mem z with z | ⟨w, hw, z⟩
        · exact .inl z
        · exact .inr ⟨w, List.mem_cons.mpr (.inr hw), z⟩
theorem joinW_no {ws : List Nm} (h : ∀ x ∈ ws, 10 ∉ x) : 10 ∉ joinW ws := fun hm => by
  rcases joinL_mem hm with z | ⟨w, hw, z⟩
  · simp at z
  · exact h w hw z
theorem split_rows {ys : List Nm} (hne : ys ≠ []) (h : ∀ p ∈ ys, 10 ∉ p) : Txt.split (S (TL.joinL [10] ys)) ("\n" : Str) = ys.map S := by
  rw [feed_is, SX.split_S (by simp) (by decide), SX.spl_join hne h]
structure Fine (pl : List Nm) (ts : List Tie) : Prop where
  tree : IsTree pl ts
  ok : ∀ l ∈ pl, NameOk l
  len : pl.length ≤ 1000
theorem Fine.okT {pl : List Nm} {ts : List Tie} (F : Fine pl ts) {e : Tie} (he : e ∈ ts) : NameOk e.1 ∧ NameOk e.2.1 := by
  obtain ⟨i1, i2, _⟩ := F.tree.ties e he
  exact ⟨F.ok _ i1, F.ok _ i2⟩
theorem Fine.ne {pl : List Nm} {ts : List Tie} (F : Fine pl ts) : pl ≠ [] := fun z => by
  have := F.tree.len
  rw [z] at this
  simp at this
theorem Fine.rowLen {pl : List Nm} {ts : List Tie} (F : Fine pl ts) {e : Tie} (he : e ∈ ts) : (rowT e).length ≤ 30 := by
  obtain ⟨o1, o2⟩ := F.okT he
  obtain ⟨_, _, _, k2⟩ := F.tree.ties e he
  have ln := num_len k2
  have la := o1.2.1
  have lb := o2.2.1
  show (e.1 ++ ([32] ++ (e.2.1 ++ ([32] ++ numW e.2.2)))).length ≤ 30
  simp
  omega
theorem Fine.headLen {pl : List Nm} {ts : List Tie} (F : Fine pl ts) : (joinW pl).length ≤ 9000 := by
  have h1 := joinL_len [32] pl
  have h2 := sum_le (B := 8) fun y hy => (F.ok y hy).2.1
  have h3 : ([32] : Nm).length = 1 := rfl
  have h4 := F.len
  rw [h3] at h1
  unfold joinW
  omega
theorem Fine.sumLen {pl : List Nm} {ts : List Tie} (F : Fine pl ts) : ((rowsT pl ts).map (·.length)).sum + (rowsT pl ts).length ≤ 50000 := by
  have h1 := F.headLen
  have h2 := sum_le (ys := ts.map rowT) (B := 30) fun y hy => by
    obtain ⟨e, he, rfl⟩ := List.mem_map.mp hy
    exact F.rowLen he
  have h3 := F.tree.len
  have h4 := F.len
  unfold rowsT
  rw [List.map_cons, List.sum_cons, List.length_cons]
  rw [List.length_map] at h2 ⊢
  omega
theorem Fine.textLen {pl : List Nm} {ts : List Tie} (F : Fine pl ts) : (textT pl ts).length ≤ 50000 := by
  have h1 := joinL_len [10] (rowsT pl ts)
  have h2 := F.sumLen
  have h3 : ([10] : Nm).length = 1 := rfl
  rw [h3] at h1
  unfold textT
  omega
theorem Fine.noFeed {pl : List Nm} {ts : List Tie} (F : Fine pl ts) : ∀ y ∈ rowsT pl ts, 10 ∉ y := fun y hy => by
  rcases List.mem_cons.mp hy with rfl | hy
  · exact joinW_no fun x hx => name_no (F.ok x hx) (by decide)
  · obtain ⟨e, he, rfl⟩ := List.mem_map.mp hy
    obtain ⟨o1, o2⟩ := F.okT he
    refine joinW_no fun x hx => ?_
    rcases List.mem_cons.mp hx with rfl | hx
    · exact name_no o1 (by decide)
    · rcases List.mem_cons.mp hx with rfl | hx
      · exact name_no o2 (by decide)
      · rw [List.mem_singleton.mp hx]
        exact num_no (by decide)
/-! ### walks by enumerate from c on -/
theorem for_enumS {K : PySem.W.Frag} {a : Addr} {c : Int} {xs : List V} {g : TG} {tb : TS} {D : Ends} {σ : L2.St} {H : Hp} (Pv : Nat → L2.St → Hp → Prop) (h0 : Pv 0 σ H) (hl : ∀ i σ H, Pv i σ H → SqL K H a xs)
    (hs : ∀ i x σ H T, xs[i]? = some x → Pv i σ H → H T = none → g (.ref T) σ (upd H T (.tup [.int (c + (i : Nat)), x])) fun σ2 H2 => tb { D with nx := Pv (i + 1), ct := Pv (i + 1), bk := D.nx } σ2 H2) (hd : ∀ σ H, Pv xs.length σ H → D.nx σ H) :
    ∃ W : Nat → Nat → L2.St → Hp → Prop, (∃ m, W 0 m σ H) ∧ ∀ i m σ H, W i m σ H →
      ((Ites K a c).stop i H ∧ D.nx σ H) ∨ ((Ites K a c).go i H ∧ ∃ N : L2.St → Hp → Prop, (∀ σ' H', N σ' H' → ∃ m', m' < m ∧ W (i + 1) m' σ' H') ∧ ∀ x H', (Ites K a c).yld i H x H' → g x σ H' fun σ2 H2 => tb { D with nx := N, ct := N, bk := D.nx } σ2 H2) := by
  refine ⟨fun i m σ H => m = xs.length - i ∧ i ≤ xs.length ∧ Pv i σ H, ⟨xs.length, by simp, Nat.zero_le _, h0⟩, fun i m σ H ⟨em, hi, p⟩ => ?_⟩
  have q := hl i σ H p
  by_cases lt : i < xs.length
  · refine .inr ⟨⟨xs, xs[i], q, by simp [lt]⟩, Pv (i + 1), fun σ' H' p' => ⟨xs.length - (i + 1), by omega, rfl, lt, p'⟩, fun v H' ⟨T, x, ev, nT, eH, hx⟩ => ?_⟩
    rw [ev, eH]
    exact hs i x σ H T (hx xs q) p nT
  · have e : i = xs.length := by omega
    rw [e] at p
    exact .inl ⟨⟨xs, q, by omega⟩, hd σ H p⟩
theorem same_smx {H H1 H2 : Hp} {d : Addr} (a : Same H H1) (s : SmX d H1 H2) (n : H d = none) : Same H H2 := fun b o h => s b o (ne_of_none h n) (a b o h)
theorem free_smx {H1 H2 : Hp} {d p : Addr} (s : SmX d H1 H2) (h : H2 p = none) (n : p ≠ d) : H1 p = none := s.free h n
abbrev s_read_tree : Stmt := topS 7
abbrev N_read_tree : List Str := ["text", "rows", "places", "parts", "ties", "number", "row", "tie", "place"]
theorem sc_read_tree : FnScope N_read_tree ["text"] (defScope s_read_tree) := ⟨rfl, rfl, rfl, by decide +kernel, rfl, by decide +kernel, by decide +kernel⟩
abbrev s_tree_shown : Stmt := topS 8
abbrev N_tree_shown : List Str := ["tree", "places", "ties", "rows", "one", "other", "length"]
theorem sc_tree_shown : FnScope N_tree_shown ["tree"] (defScope s_tree_shown) := ⟨rfl, rfl, rfl, by decide +kernel, rfl, by decide +kernel, by decide +kernel⟩
section
variable {P : Program} {w : World} {K : PySem.W.Frag} {mg : Str → Option Value} {base : Heap}
/-- the marks behind such ties -/
def marks (ts : List Tie) : Nm → Nm := ts.foldl (fun mk e => merged mk e.1 e.2.1) id
theorem marks_snoc (ts : List Tie) (e : Tie) : marks (ts ++ [e]) = merged (marks ts) e.1 e.2.1 := by
  unfold marks
  rw [List.foldl_append]
  rfl
/-- places and ties that a text may show, tree or not -/
structure Shown (pl : List Nm) (ts : List Tie) : Prop where
  ne : pl ≠ []
  nd : pl.Nodup
  ok : ∀ l ∈ pl, NameOk l
  len : pl.length ≤ 1000
  ties : ∀ e ∈ ts, NameOk e.1 ∧ NameOk e.2.1 ∧ 1 ≤ e.2.2 ∧ e.2.2 ≤ 1000000
  tlen : ts.length ≤ 1500
theorem Shown.rowLen {pl : List Nm} {ts : List Tie} (F : Shown pl ts) {e : Tie} (he : e ∈ ts) : (rowT e).length ≤ 30 := by
  obtain ⟨o1, o2, _, k2⟩ := F.ties e he
  have ln := num_len k2
  have la := o1.2.1
  have lb := o2.2.1
  show (e.1 ++ ([32] ++ (e.2.1 ++ ([32] ++ numW e.2.2)))).length ≤ 30
  simp
  omega
theorem Shown.headLen {pl : List Nm} {ts : List Tie} (F : Shown pl ts) : (joinW pl).length ≤ 9000 := by
  have h1 := joinL_len [32] pl
  have h2 := sum_le (B := 8) fun y hy => (F.ok y hy).2.1
  have h3 : ([32] : Nm).length = 1 := rfl
  have h4 := F.len
  rw [h3] at h1
  unfold joinW
  omega
theorem Shown.sumLen {pl : List Nm} {ts : List Tie} (F : Shown pl ts) : ((rowsT pl ts).map (·.length)).sum + (rowsT pl ts).length ≤ 60000 := by
  have h1 := F.headLen
  have h2 := sum_le (ys := ts.map rowT) (B := 30) fun y hy => by
    obtain ⟨e, he, rfl⟩ := List.mem_map.mp hy
    exact F.rowLen he
  have h3 := F.tlen
  unfold rowsT
  rw [List.map_cons, List.sum_cons, List.length_cons]
  rw [List.length_map] at h2 ⊢
  omega
theorem Shown.textLen {pl : List Nm} {ts : List Tie} (F : Shown pl ts) : (textT pl ts).length ≤ 60000 := by
  have h1 := joinL_len [10] (rowsT pl ts)
  have h2 := F.sumLen
  have h3 : ([10] : Nm).length = 1 := rfl
  rw [h3] at h1
  unfold textT
  omega
theorem Shown.noFeed {pl : List Nm} {ts : List Tie} (F : Shown pl ts) : ∀ y ∈ rowsT pl ts, 10 ∉ y := fun y hy => by
  rcases List.mem_cons.mp hy with rfl | hy
  · exact joinW_no fun x hx => name_no (F.ok x hx) (by decide)
  · obtain ⟨e, he, rfl⟩ := List.mem_map.mp hy
    obtain ⟨o1, o2, _⟩ := F.ties e he
    refine joinW_no fun x hx => ?_
    rcases List.mem_cons.mp hx with rfl | hx
    · exact name_no o1 (by decide)
    · rcases List.mem_cons.mp hx with rfl | hx
      · exact name_no o2 (by decide)
      · rw [List.mem_singleton.mp hx]
        exact num_no (by decide)
/-- the first ties that may stand so, all of them -/
def RunOk (pl : List Nm) (ts : List Tie) (n : Nat) : Prop := ∀ (j : Nat) (e : Tie), j < n → ts[j]? = some e → OkTie pl (marks (ts.take j)) e
variable {C fI CF : Addr}
def spReadX (C : Addr) : Sp := fun vs H Q E => ∃ (pl : List Nm) (ts : List Tie), vs = [.str (S (textT pl ts))] ∧ Shown pl ts ∧
  (RunOk pl ts ts.length → pl.length ≤ ts.length + 1 → ∀ (H' : Hp) (t : Addr), Same H H' → H t = none → Dt H' (.ref t) (treeD pl ts) → Q (.ref t) H') ∧
  (RunOk pl ts ts.length → ts.length + 1 < pl.length → ∀ (H' : Hp) (dx : Addr), Same H H' → H' dx = some (.xd [("row", .int ((ts.length : Int) + 1))]) → E (.ref C) (some dx) H') ∧
  (∀ (i : Nat) (e : Tie), ts[i]? = some e → RunOk pl ts i → ¬ OkTie pl (marks (ts.take i)) e → ∀ (H' : Hp) (dx : Addr), Same H H' → H' dx = some (.xd [("row", .int (1 + (i : Int)))]) → E (.ref C) (some dx) H')
theorem ok_read_tree {f : Addr} {fd fdi : FuncData} (TN : NtC K mg C fI CF) (Fi : FnOk P w K mg base (L2.CX P w) 1 fI fdi ["self", "row"] (spInitT K C)) (bi : Binds K fdi ["self", "row"] []) (F : Fun K "read_tree" "read_tree" s_read_tree f fd) (T : TxtP mg) (C_read_places : Cal P w K mg base 2 "_read_places" spPlaces) (C_read_tie : CalX P w K mg base 3 "_read_tie" (spTieX C)) (C_hang_together : Cal P w K mg base 1 "_hang_together" spHang) : FnOk P w K mg base (L2.CX P w) 4 f fd ["text"] (spReadX C) := by
  refine F.okX sc_read_tree (fun vs H Q E h => ?_) (fun cdv A outer s H vs Q E hr h => ?_)
  · obtain ⟨pl, ts, rfl, _⟩ := h
    rfl
  · obtain ⟨pl, ts, rfl, fine, q, qS, qB⟩ := h
    refine ⟨_, (pss_cons (ps_set (i := 1) sc_read_tree.nd rfl (.inl rfl) (pe_split (pv 0) pe_str))
      (pss_cons (ps_set (i := 2) sc_read_tree.nd rfl (.inl rfl) (pe_c C_read_places hr (by decide) rfl (pa_cons (pe_ix ix_list (pv 1) pe_int (fun _ _ => rfl)) pa_nil)))
      (pss_cons (ps_setDc (i := 3) (own := [("place", 8)]) (g := gName 8) (tt := tYes) rfl sc_read_tree.nd rfl rfl (swD_true rfl rfl rfl (by decide +kernel)) (pi_tup (pv 2)) (blkOk_by (N := N_read_tree) (sc := defScope s_read_tree) (by decide +kernel)) (fun _ _ _ _ _ => pg_name (i := 8) sc_read_tree.nd rfl (Or.inl rfl)) (fun _ _ _ _ _ => pts_nil) (fun _ _ _ _ _ => (pv 8)) (fun _ _ _ _ _ => (pv 8)))
      (pss_cons (ps_set (i := 4) sc_read_tree.nd rfl (.inl rfl) (pe_lst pa_nil))
      (pss_cut (ps_for (passes_of rfl) rfl (pi_enumS (by rfl) T.enumerate (pa_cons (pe_slice sl_list (pv 1) (po_some pe_int) po_none) pa_nil) (by decide) (by decide)) (pg_tup rfl (pgs_cons (pg_name (i := 5) sc_read_tree.nd rfl (.inl rfl)) (pgs_cons (pg_name (i := 6) sc_read_tree.nd rfl (.inl rfl)) pgs_nil)))
        (pss_cons (ps_set (i := 7) sc_read_tree.nd rfl (.inl rfl) (pe_cX (takes_of rfl rfl rfl rfl) C_read_tie hr (by decide) rfl (pa_cons (pv 6) (pa_cons (pv 5) (pa_cons (pv 3) pa_nil)))))
        (pss_cons (ps_expr (pe_c C_hang_together hr (by decide) rfl (pa_cons (pv 3) (pa_cons (pe_ix ix_tup (pv 7) pe_int (fun _ _ => rfl)) (pa_cons (pe_ix ix_tup (pv 7) pe_int (fun _ _ => rfl)) pa_nil)))))
        (pss_one (ps_expr (pe_bm PySem.F.plainAttrs_list PySem.F.slot_list_append PySem.F.type_list_append mt_append (pv 4) (pa_cons (pv 7) pa_nil)))))))
      (pss_cut (ps_if (pt_cmpR op_lt (pe_callB call_len_seq (by rfl) T.len bt_len (pa_cons (pv 4) pa_nil)) (pe_op op_sub (pe_callB call_len_seq (by rfl) T.len bt_len (pa_cons (pv 2) pa_nil)) pe_int) (nomark _))
        (pss_one (ps_raise rfl (takes_of rfl rfl rfl rfl) (pmk_oex TN.oex TN.iC TN.tI Fi (hr.mono (by decide)) bi .nil passL (by rfl) TN.gC (pa_cons (pe_callB call_len_seq (by rfl) T.len bt_len (pa_cons (pv 1) pa_nil)) pa_nil))))
        pss_nil)
      (pss_one (ps_ret (pe_tup (pa_cons (pv 2) (pa_cons (pe_tupleOf (by rfl) T.tuple (pv 4)) pa_nil))))))))))), ?_⟩
    have tl := fine.textLen
    have nd := fine.nd
    have pl1 := fine.len
    have tlen := fine.tlen
    refine ⟨_, rfl, ⟨_, rfl⟩, _, _, rfl, rfl, by decide +kernel, by rw [SX.S_len]; exact Nat.le_trans (show _ ≤ 100000 by omega) (by decide), fun p np => ?_⟩
    rw [show Txt.split (S (textT pl ts)) ("\n" : Str) = (rowsT pl ts).map S from split_rows (by simp [rowsT]) fine.noFeed]
    -- places
    refine ⟨_, rfl, p, _, 0, .str (S (joinW pl)), rfl, rfl, SqL.of upd_same, atI_nat (j := 0) rfl, pl, rfl, fine.ne, nd, fine.ok, pl1, fun H1 t S1 nt ht => ?_⟩
    have hp1 := S1 p _ upd_same
    have SM1 : Same H H1 := (same_new (Same.refl H) np).trans S1
    have nt0 : H t = none := (same_new (o := .lst (((rowsT pl ts).map S).map V.str)) (Same.refl H) np).free nt
    -- parts
    refine ⟨_, rfl, t, rfl, ⟨_, SqT.of ht⟩, fun D nD => ?_⟩
    have D0 : H D = none := SM1.free nD
    have Dt' : D ≠ t := (ne_of_none ht nD).symm
    have Dp' : D ≠ p := (ne_of_none hp1 nD).symm
    refine dc_tup (K := K) (a := t) (xs := (pl.map S).map V.str) (fun i H' => H' = upd H1 D (.dK (partsK (pl.take i) id))) rfl (fun i H' _ hP => ?_) (fun i x H' hi hP => ?_) (fun H' hP => ?_)
    · rw [hP]
      exact SqT.of (by rw [upd_ne Dt'.symm]; exact ht)
    · subst hP
      rw [List.getElem?_map, List.getElem?_map] at hi
      cases el : pl[i]? with
      | none =>
        rw [el] at hi
        cases hi
      | some l =>
        rw [el] at hi
        have ex : x = .str (S l) := (Option.some.inj hi).symm
        subst ex
        have ln : l ∉ pl.take i := fun hm => by
          obtain ⟨j, hj, ej⟩ := List.mem_take_iff_getElem.mp hm
          obtain ⟨hi', ei⟩ := List.getElem?_eq_some_iff.mp el
          have := (List.getElem_inj nd).mp (ej.trans ei.symm)
          omega
        refine ⟨rfl, _, rfl, _, rfl, _, Sum.inr (S l), rfl, upd_same, by unfold partsK; rw [List.length_map, List.length_take]; exact sz_lt (by omega), ?_⟩
        rw [upd_upd, putK_new _ (parts_no ln), List.take_add_one, el]
        unfold partsK
        rw [List.map_append]
        rfl
    · subst hP
      rw [List.length_map, List.length_map, List.take_length]
      -- ties
      refine ⟨Nat.zero_le _, fun g ng => ?_⟩
      have gD : g ≠ D := (ne_of_none upd_same ng).symm
      have ng1 : H1 g = none := by rw [upd_ne gD] at ng; exact ng
      have g0 : H g = none := SM1.free ng1
      have gt : g ≠ t := (ne_of_none ht ng1).symm
      have gp : g ≠ p := (ne_of_none hp1 ng1).symm
      refine ⟨fun σ' H' => ∃ (x5 x6 x7 : Option V) (vs : List V), σ' = [some (.str (S (textT pl ts))), some (.ref p), some (.ref t), some (.ref D), some (.ref g), x5, x6, x7, none] ∧ Same H H' ∧ H' t = some (.tup ((pl.map S).map V.str)) ∧ H' g = some (.lst vs) ∧ DtAll H' vs (ts.map tieD) ∧ RunOk pl ts ts.length ∧ H' p = some (.lst (((rowsT pl ts).map S).map V.str)), ?_, fun σ' H' hM => ?_⟩
      · -- rows[1:]
        refine ⟨_, rfl, 1, rfl, p, _, rfl, SqL.of (by rw [upd_ne gp.symm, upd_ne Dp'.symm]; exact hp1), fun c nc => ?_⟩
        have cg : c ≠ g := (ne_of_none upd_same nc).symm
        have nc1 : (upd H1 D (.dK (partsK pl id))) c = none := by rw [upd_ne cg] at nc; exact nc
        have cD : c ≠ D := (ne_of_none upd_same nc1).symm
        have nc2 : H1 c = none := by rw [upd_ne cD] at nc1; exact nc1
        have c0 : H c = none := SM1.free nc2
        have ct : c ≠ t := (ne_of_none ht nc2).symm
        have cp : c ≠ p := (ne_of_none hp1 nc2).symm
        have ecut : cutV (((rowsT pl ts).map S).map V.str) (some 1) none = ((ts.map rowT).map S).map V.str := by
          unfold cutV
          rw [show HT.sIx (((rowsT pl ts).map S).map V.str).length 0 (some 1) = min 1 (((rowsT pl ts).map S).map V.str).length from HT.sIx_nat _ 0 1, HT.sIx_none]
          unfold rowsT
          simp
          exact List.take_of_length_le (by simp)
        rw [ecut]
        refine ⟨c, _, rfl, SqL.of upd_same, for_enumS (K := K) (a := c) (c := 1) (xs := ((ts.map rowT).map S).map V.str) (fun i σ' H' => ∃ (x5 x6 x7 : Option V) (vs : List V) (mk : Nm → Nm), σ' = [some (.str (S (textT pl ts))), some (.ref p), some (.ref t), some (.ref D), some (.ref g), x5, x6, x7, none] ∧ Same H H' ∧ H' t = some (.tup ((pl.map S).map V.str)) ∧ H' c = some (.lst (((ts.map rowT).map S).map V.str)) ∧ PartsAt H' D pl mk ∧ (mk = marks (ts.take i) ∧ RunOk pl ts i ∧ H' p = some (.lst (((rowsT pl ts).map S).map V.str))) ∧ H' g = some (.lst vs) ∧ DtAll H' vs ((ts.take i).map tieD))
          ⟨none, none, none, [], id, rfl, same_put (same_put (same_put SM1 D0) g0) c0, by rw [upd_ne ct.symm, upd_ne gt.symm, upd_ne Dt'.symm]; exact ht, upd_same, by unfold PartsAt; rw [upd_ne cD.symm, upd_ne gD.symm]; exact upd_same, ⟨rfl, fun j e hj _ => absurd hj (Nat.not_lt_zero _), by rw [upd_ne cp.symm, upd_ne gp.symm, upd_ne Dp'.symm]; exact hp1⟩, by rw [upd_ne cg.symm]; exact upd_same, .nil⟩ (fun i σ' H' hP => ?_) (fun i x σ' H' T hi hP nT => ?_) (fun σ' H' hP => ?_)⟩
        · obtain ⟨_, _, _, _, _, _, _, _, hc, _⟩ := hP
          exact SqL.of hc
        · obtain ⟨x5, x6, x7, vs, mk, rfl, SM, ht', hc, hD, ⟨rfl, M, hpp⟩, hg, hA⟩ := hP
          rw [List.getElem?_map, List.getElem?_map, List.getElem?_map] at hi
          cases ee : ts[i]? with
          | none =>
            rw [ee] at hi
            cases hi
          | some e =>
            rw [ee] at hi
            have ex : x = .str (S (rowT e)) := (Option.some.inj hi).symm
            subst ex
            have em : e ∈ ts := List.mem_of_getElem? ee
            obtain ⟨o1, o2, k1, k2⟩ := fine.ties e em
            obtain ⟨hi', ei⟩ := List.getElem?_eq_some_iff.mp ee
            have hsp : ts = ts.take i ++ e :: ts.drop (i + 1) := by
              rw [← ei, List.getElem_cons_drop, List.take_append_drop]
            have et : ts.take (i + 1) = ts.take i ++ [e] := by
              rw [List.take_add_one, ee]
              rfl
            refine ⟨T, _, rfl, SqT.of upd_same, rfl, _, _, rfl, _, _, rfl, rfl, ?_⟩
            have sT : Same H' (upd H' T (.tup [.int (1 + (i : Nat)), .str (S (rowT e))])) := same_new (Same.refl H') nT
            have til : ts.length ≤ 1500 := tlen
            refine ⟨_, rfl, _, rfl, _, rfl, e, _, D, pl, marks (ts.take i), rfl, sT _ _ hD, o1, o2, k1, k2, by omega, by omega, fun okT H2 u S2 nu hu => ?_, fun no H2 dx S2 hx => qB i e ee M no H2 dx ((SM.trans sT).trans S2) hx⟩
            obtain ⟨i1, i2, i3⟩ := okT
            have S02 : Same H' H2 := sT.trans S2
            refine ⟨_, rfl, _, rfl, u, _, 0, _, rfl, rfl, SqT.of hu, rfl, _, rfl, u, _, 1, _, rfl, rfl, SqT.of hu, rfl, D, pl, marks (ts.take i), e.1, e.2.1, rfl, S02 _ _ hD, nd, pl1, i1, i2, fun H3 S3 hD3 => ?_⟩
            have uD : u ≠ D := (ne_of_none (sT _ _ hD) nu).symm
            have hg3 : H3 g = some (.lst vs) := S3 g _ gD (S02 _ _ hg)
            have vl : vs.length = (ts.take i).length := by
              have := DtAll.len hA
              rwa [List.length_map] at this
            rw [List.length_take] at vl
            refine ⟨_, rfl, .inl ⟨rfl, _, SqL.of hg3⟩, _, rfl, g, _, _, rfl, rfl, hg3, sz_lt (by omega), ?_⟩
            have tk2 : TK H2 H3 := ⟨fun b ys h => S3 b _ (ne_of h (S02 _ _ hD) (by intro z; cases z)) h, fun b u ys h => S3 b _ (ne_of h (S02 _ _ hD) (by intro z; cases z)) h⟩
            have tk3 : TK H3 (upd H3 g (.lst (vs ++ [.ref u]))) := TK.mut hg3
            refine ⟨_, _, _, vs ++ [.ref u], merged (marks (ts.take i)) e.1 e.2.1, rfl, same_put (same_smx (SM.trans S02) S3 D0) g0, by rw [upd_ne gt.symm]; exact S3 t _ Dt'.symm (S02 _ _ ht'), by rw [upd_ne cg]; exact S3 c _ cD (S02 _ _ hc), by unfold PartsAt; rw [upd_ne gD.symm]; exact hD3, ⟨by rw [et, marks_snoc], fun j e' hj he' => ?_, by rw [upd_ne gp.symm]; exact S3 p _ Dp'.symm (S02 _ _ hpp)⟩, upd_same, ?_⟩
            · by_cases c : j < i
              · exact M j e' c he'
              · have ej : j = i := by omega
                subst ej
                rw [ee] at he'
                cases he'
                exact ⟨i1, i2, i3⟩
            rw [et, List.map_append]
            exact DtAll.app (DtAll.keep (((TK.of S02).trans tk2).trans tk3) hA) (.cons (Dt.keep (tk2.trans tk3) (.tup hu (.cons (.str _) (.cons (.str _) (.cons (.int _) .nil))))) .nil)
        · obtain ⟨x5, x6, x7, vs, mk, rfl, SM, ht', hc, hD, ⟨rfl, M, hpp⟩, hg, hA⟩ := hP
          rw [List.length_map, List.length_map, List.length_map, List.take_length] at hA
          rw [List.length_map, List.length_map, List.length_map] at M
          exact ⟨x5, x6, x7, vs, rfl, SM, ht', hg, hA, M, hpp⟩
      · obtain ⟨x5, x6, x7, vs, rfl, SM, ht', hg, hA, M, hpp⟩ := hM
        have vl : vs.length = ts.length := by
          have := DtAll.len hA
          rwa [List.length_map] at this
        refine ⟨fun σ'' H'' => σ'' = [some (.str (S (textT pl ts))), some (.ref p), some (.ref t), some (.ref D), some (.ref g), x5, x6, x7, none] ∧ H'' = H' ∧ pl.length ≤ ts.length + 1, ?_, fun σ'' H'' hM => ?_⟩
        · refine ⟨_, rfl, g, _, rfl, .inl (SqL.of hg), _, rfl, t, _, rfl, .inr (SqT.of ht'), _, _, rfl, rfl, _, _, rfl, rfl, _, rfl, ?_⟩
          rw [List.length_map, List.length_map]
          by_cases c : pl.length ≤ ts.length + 1
          · rw [decide_eq_false (by omega)]
            exact iteF ⟨rfl, rfl, c⟩
          · rw [decide_eq_true (by omega)]
            refine iteT ?_
            have er : (((rowsT pl ts).map S).map V.str).length = ts.length + 1 := by
              rw [List.length_map, List.length_map]
              unfold rowsT
              rw [List.length_cons, List.length_map]
            refine raised (n := (ts.length : Int) + 1) (fun Q h => ⟨_, rfl, p, _, rfl, .inl (SqL.of hpp), ?_⟩) (by omega) (by omega) fun H2 dx S2 hx => qS M (by omega) H2 dx (SM.trans S2) hx
            rw [er]
            exact h
        · obtain ⟨rfl, rfl, c⟩ := hM
          refine ⟨_, rfl, _, rfl, .inl ⟨g, _, rfl, SqL.of hg, fun a2 na2 => ?_⟩⟩
          refine ⟨(by show 2 ≤ sizeLine; decide), fun a3 na3 => ?_⟩
          have tk : TK H'' (upd (upd H'' a2 (.tup vs)) a3 (.tup [.ref t, .ref a2])) := (TK.new na2).trans (TK.new na3)
          refine q M c _ a3 (same_new (same_new SM na2) na3) ((same_new (o := .tup vs) SM na2).free na3) (.tup upd_same (.cons (.tup (tk.tup _ _ ht') (dt_strs _ pl)) (.cons (.tup ((TK.new na3).tup _ _ upd_same) (DtAll.keep tk hA)) .nil)))
theorem dt_pair {H : Hp} {v : V} {d e : PyData} (h : Dt H v (.tuple [d, e])) (ne : ∀ l : Nm, e ≠ strD l) : ∃ (a : Addr) (x y : V), v = .ref a ∧ H a = some (.tup [x, y]) ∧ Dt H x d ∧ Dt H y e := by
  cases h with
  | tup ha hs =>
    cases hs with
    | cons h1 hr =>
      cases hr with
      | cons h2 hn =>
        cases hn
        exact ⟨_, _, _, rfl, ha, h1, h2⟩
  | @tupZ a pl _ o e _ _ _ =>
    exfalso
    cases pl with
    | nil => cases e
    | cons l r =>
      cases r with
      | nil => cases e
      | cons l2 r2 => exact ne l2 (List.cons.inj (List.cons.inj e).2).1
theorem dt_tup {H : Hp} {v : V} {ds : List PyData} (h : Dt H v (.tuple ds)) (ne : ds ≠ [] → ∃ d ∈ ds, ∀ l : Nm, d ≠ strD l) : ∃ (a : Addr) (xs : List V), v = .ref a ∧ H a = some (.tup xs) ∧ DtAll H xs ds := by
  cases h with
  | tup ha hs => exact ⟨_, _, rfl, ha, hs⟩
  | @tupZ a pl _ o e n _ _ =>
    exfalso
    obtain ⟨d, hd, no⟩ := ne (by rw [e]; simpa using n)
    rw [e] at hd
    obtain ⟨l, _, z⟩ := List.mem_map.mp hd
    exact no l z.symm
theorem dt_names {H : Hp} {v : V} {pl : List Nm} (h : Dt H v (.tuple (pl.map strD))) : ∃ a : Addr, v = .ref a ∧ TupAt H a ((pl.map S).map V.str) := by
  have inj : ∀ {p q : List Nm}, p.map strD = q.map strD → p = q := by
    intro p
    induction p with
    | nil =>
      intro q e
      cases q with
      | nil => rfl
      | cons _ _ => cases e
    | cons a r ih =>
      intro q e
      cases q with
      | nil => cases e
      | cons b t =>
        have e' := List.cons.inj e
        have h1 : S a = S b := PyData.str.inj e'.1
        rw [SX.S_inj h1, ih e'.2]
  generalize hd : pl.map strD = ds at h
  cases h with
  | tup ha hs =>
    subst hd
    rw [DtAll.strs hs] at ha
    exact ⟨_, rfl, .inl ha⟩
  | @tupZ a pl2 _ o e n d ha =>
    rw [← inj (hd.trans e)] at ha
    exact ⟨_, rfl, .inr ⟨o, d, ha⟩⟩
theorem tie_no (e : Tie) (l : Nm) : tieD e ≠ strD l := fun z => nomatch z
/-- a tree in the heap: its parts -/
theorem dt_tree {H : Hp} {v : V} {pl : List Nm} {ts : List Tie} (h : Dt H v (treeD pl ts)) : ∃ (t a b : Addr) (vs : List V), v = .ref t ∧ H t = some (.tup [.ref a, .ref b]) ∧ TupAt H a ((pl.map S).map V.str) ∧ H b = some (.tup vs) ∧ DtAll H vs (ts.map tieD) := by
  obtain ⟨t, x, y, rfl, ht, hx, hy⟩ := dt_pair h fun l z => nomatch z
  obtain ⟨a, rfl, ha⟩ := dt_names hx
  obtain ⟨b, vs, rfl, hb, hv⟩ := dt_tup hy fun n => by
    cases ts with
    | nil => exact absurd rfl n
    | cons e r => exact ⟨tieD e, List.mem_cons_self .., tie_no e⟩
  exact ⟨t, a, b, vs, rfl, ht, ha, hb, hv⟩
theorem dt_tie {H : Hp} {v : V} {e : Tie} (h : Dt H v (tieD e)) : ∃ t : Addr, v = .ref t ∧ H t = some (.tup [.str (S e.1), .str (S e.2.1), .int e.2.2]) := by
  obtain ⟨t, xs, rfl, ht, hs⟩ := dt_tup h fun _ => ⟨.int e.2.2, by simp [tieD], fun l z => nomatch z⟩
  cases hs with
  | cons h1 hr =>
    cases hr with
    | cons h2 hr =>
      cases hr with
      | cons h3 hr =>
        cases hr
        cases h1
        cases h2
        cases h3
        exact ⟨t, rfl, ht⟩
def spShown : Sp := fun vs H Q _ => ∃ (v : V) (pl : List Nm) (ts : List Tie), vs = [v] ∧ Dt H v (treeD pl ts) ∧ Fine pl ts ∧ ∀ H' : Hp, Same H H' → Q (.str (S (textT pl ts))) H'
theorem ok_tree_shown {f : Addr} {fd : FuncData} (F : Fun K "tree_shown" "tree_shown" s_tree_shown f fd) : FnOk P w K mg base CX0 1 f fd ["tree"] spShown := by
  refine F.ok sc_tree_shown (fun vs H Q E h => ?_) (fun cdv A outer s H vs Q E hr h => ?_)
  · obtain ⟨v, pl, ts, rfl, _⟩ := h
    rfl
  · obtain ⟨v, pl, ts, rfl, hd, fine, q⟩ := h
    obtain ⟨t, a, b, vs, rfl, ht, ha, hb, hA⟩ := dt_tree hd
    refine ⟨_, (pss_cons (ps_asg (pv 0) (pg_tup rfl (pgs_cons (pg_name (i := 1) sc_tree_shown.nd rfl (.inl rfl)) (pgs_cons (pg_name (i := 2) sc_tree_shown.nd rfl (.inl rfl)) pgs_nil))))
      (pss_cons (ps_set (i := 3) sc_tree_shown.nd rfl (.inl rfl) (pe_lst (pa_cons (pe_join pe_str (pv 1)) pa_nil)))
      (pss_cut (ps_for PassesOwn.never rfl (pi_tup (pv 2)) (pg_tup rfl (pgs_cons (pg_name (i := 4) sc_tree_shown.nd rfl (.inl rfl)) (pgs_cons (pg_name (i := 5) sc_tree_shown.nd rfl (.inl rfl)) (pgs_cons (pg_name (i := 6) sc_tree_shown.nd rfl (.inl rfl)) pgs_nil))))
        (pss_one (ps_expr (pe_bm PySem.F.plainAttrs_list PySem.F.slot_list_append PySem.F.type_list_append mt_append (pv 3) (pa_cons (pe_joined (.cons (pe_fmt (pv 4)) (.cons pe_str (.cons (pe_fmt (pv 5)) (.cons pe_str (.cons (pe_fmt (pv 6)) .nil)))))) pa_nil)))))
      (pss_one (ps_ret (pe_join pe_str (pv 3))))))), ?_⟩
    have hl := fine.headLen
    have pl1 := fine.len
    have len := fine.tree.len
    have vl : vs.length = ts.length := by
      have := DtAll.len hA
      rwa [List.length_map] at this
    refine ⟨_, rfl, t, _, rfl, SqT.of ht, rfl, _, _, rfl, _, _, rfl, rfl, ?_⟩
    have ej : Txt.join (" " : Str) (pl.map S) = S (joinW pl) := by
      rw [blank_is, SX.join_S]
      rfl
    have sj : ((pl.map S).map (·.length)).sum + (pl.map S).length * ((" " : Str)).length ≤ 16777216 := by
      have h2 := sum_le (B := 8) fun y hy => (fine.ok y hy).2.1
      have h3 : ((" " : Str)).length = 1 := by decide +kernel
      rw [SX.lens, List.length_map, h3]
      exact Nat.le_trans (Nat.add_le_add (show _ ≤ pl.length * 8 from h2) (Nat.le_refl _)) (by omega)
    refine ⟨⟨_, rfl⟩, _, rfl, _, a, pl.map S, rfl, rfl, .inr ha.sq, sj, (by show 1 ≤ sizeLine; decide), fun p np => ?_⟩
    rw [ej]
    refine ⟨fun σ' H' => ∃ x4 x5 x6, σ' = [some (.ref t), some (.ref a), some (.ref b), some (.ref p), x4, x5, x6] ∧ Same H H' ∧ H' p = some (.lst (((rowsT pl ts).map S).map V.str)), ?_, fun σ' H' hM => ?_⟩
    · refine ⟨_, rfl, b, rfl, ⟨_, SqT.of (by rw [upd_ne (ne_of_none hb np)]; exact hb)⟩, for_tup (K := K) (a := b) (xs := vs) (fun i σ' H' => ∃ x4 x5 x6, σ' = [some (.ref t), some (.ref a), some (.ref b), some (.ref p), x4, x5, x6] ∧ Same H H' ∧ H' p = some (.lst (((rowsT pl (ts.take i)).map S).map V.str)))
        ⟨none, none, none, rfl, same_new (Same.refl H) np, upd_same⟩ (fun i σ' H' _ hP => ?_) (fun i x σ' H' hi hP => ?_) (fun σ' H' hP => ?_)⟩
      · obtain ⟨_, _, _, _, sm, _⟩ := hP
        exact SqT.of (sm _ _ hb)
      · obtain ⟨x4, x5, x6, rfl, sm, hp⟩ := hP
        obtain ⟨d, hd, hx⟩ := DtAll.get hA hi
        rw [List.getElem?_map] at hd
        cases ee : ts[i]? with
        | none =>
          rw [ee] at hd
          cases hd
        | some e =>
          rw [ee] at hd
          have ed : d = tieD e := (Option.some.inj hd).symm
          subst ed
          obtain ⟨u, rfl, hu⟩ := dt_tie hx
          have em : e ∈ ts := List.mem_of_getElem? ee
          obtain ⟨i1, i2, k1, k2⟩ := fine.tree.ties e em
          obtain ⟨o1, o2⟩ := fine.okT em
          have ln := num_len k2
          have l1 := o1.2.1
          have l2 := o2.2.1
          have et : ts.take (i + 1) = ts.take i ++ [e] := by
            rw [List.take_add_one, ee]
            rfl
          refine ⟨u, _, rfl, SqT.of (sm _ _ hu), rfl, _, _, rfl, _, _, rfl, _, _, rfl, rfl, ?_⟩
          have ek : (toString e.2.2 : String) = toString ((e.2.2.toNat : Nat) : Int) := by
            congr 1
            omega
          have en : Str.ofString (toString e.2.2) = S (numW e.2.2) := by
            rw [ek]
            exact SX.num_S _
          have e0 : Str.empty = S [] := by decide +kernel
          have lb : e.2.2.natAbs.log2 < 1920 := Nat.lt_trans (PySem.Flt.log2_lt_of (k := 20) (by decide) (by
            have : (2 : Nat) ^ 20 = 1048576 := by decide
            omega)) (by decide)
          refine ⟨_, rfl, .inl ⟨rfl, _, SqL.of hp⟩, _, rfl, .inl ⟨S e.1, rfl, by rw [SX.S_len]; exact sz_le (by omega), S e.1, rfl, by rw [e0, SX.S_cat, SX.S_len]; exact sz_le (by simp; omega), " ", rfl, by rw [e0, SX.S_cat, blank_is, SX.S_cat, SX.S_len]; exact sz_le (by simp; omega),
            _, rfl, .inl ⟨S e.2.1, rfl, by rw [SX.S_len]; exact sz_le (by omega), S e.2.1, rfl, by rw [e0, SX.S_cat, blank_is, SX.S_cat, SX.S_cat, SX.S_len]; exact sz_le (by simp; omega), " ", rfl, by rw [e0, SX.S_cat, blank_is, SX.S_cat, SX.S_cat, SX.S_cat, SX.S_len]; exact sz_le (by simp; omega),
            _, rfl, .inr ⟨e.2.2, rfl, lb, S (numW e.2.2), congrArg V.str en, by rw [e0, SX.S_cat, blank_is, SX.S_cat, SX.S_cat, SX.S_cat, SX.S_cat, SX.S_len]; exact sz_le (by simp; omega), p, _, _, rfl, rfl, hp, by rw [List.length_map, List.length_map]; unfold rowsT; rw [List.length_cons, List.length_map, List.length_take]; exact sz_lt (by omega), ?_⟩⟩⟩⟩
          refine ⟨_, _, _, rfl, same_put sm np, ?_⟩
          rw [upd_same, e0, SX.S_cat, blank_is, SX.S_cat, SX.S_cat, SX.S_cat, SX.S_cat, et]
          have er : [] ++ e.1 ++ [32] ++ e.2.1 ++ [32] ++ numW e.2.2 = rowT e := by
            show _ = e.1 ++ ([32] ++ (e.2.1 ++ ([32] ++ numW e.2.2)))
            simp
          rw [er]
          unfold rowsT
          rw [List.map_append, List.map_cons, List.map_cons, List.map_cons, List.map_cons, List.map_append, List.map_append]
          rfl
      · obtain ⟨x4, x5, x6, rfl, sm, hp⟩ := hP
        rw [vl, List.take_length] at hp
        exact ⟨_, _, _, rfl, sm, hp⟩
    · obtain ⟨x4, x5, x6, rfl, sm, hp⟩ := hM
      have s1 := fine.sumLen
      have h3 : (("\n" : Str)).length = 1 := by decide +kernel
      refine ⟨⟨_, rfl⟩, _, rfl, _, p, (rowsT pl ts).map S, rfl, rfl, .inl (SqL.of hp), by rw [SX.lens, List.length_map, h3, Nat.mul_one]; exact Nat.le_trans (show _ ≤ 50000 from s1) (by decide), ?_⟩
      rw [feed_is, SX.join_S]
      exact q H' sm
end
end Far

namespace Far
open PySem PySem.Spec PyProof.Rows L2
open C8 (pss_cut tCut)
open SX (S)
/-- the first wrong row of such a text -/
def RowIs (pl : List Nm) (ts : List Tie) (n : Int) : Prop := (RunOk pl ts ts.length ∧ ts.length + 1 < pl.length ∧ n = (ts.length : Int) + 1) ∨ ∃ (i : Nat) (e : Tie), ts[i]? = some e ∧ RunOk pl ts i ∧ ¬ OkTie pl (marks (ts.take i)) e ∧ n = 1 + (i : Int)
theorem RowIs.not_run {pl : List Nm} {ts : List Tie} {i : Nat} {e : Tie} (he : ts[i]? = some e) (no : ¬ OkTie pl (marks (ts.take i)) e) {k : Nat} (r : RunOk pl ts k) : k ≤ i := by
  by_cases c : i < k
  · exact absurd (r i e c he) no
  · omega
theorem RowIs.short {pl : List Nm} {ts : List Tie} {n : Int} (h : RowIs pl ts n) (r : RunOk pl ts ts.length) : ts.length + 1 < pl.length ∧ n = (ts.length : Int) + 1 := by
  rcases h with ⟨_, h1, h2⟩ | ⟨i, e, h1, h2, h3, h4⟩
  · exact ⟨h1, h2⟩
  · have := RowIs.not_run h1 h3 r
    have := (List.getElem?_eq_some_iff.mp h1).1
    omega
theorem RowIs.bad {pl : List Nm} {ts : List Tie} {n : Int} (h : RowIs pl ts n) {i : Nat} {e : Tie} (he : ts[i]? = some e) (r : RunOk pl ts i) (no : ¬ OkTie pl (marks (ts.take i)) e) : n = 1 + (i : Int) := by
  have il := (List.getElem?_eq_some_iff.mp he).1
  rcases h with ⟨h0, h1, h2⟩ | ⟨j, e', h1, h2, h3, h4⟩
  · have := RowIs.not_run he no h0
    omega
  · have a := RowIs.not_run he no h2
    have b := RowIs.not_run h1 h3 r
    omega
abbrev s_law_row : Stmt := topS 21
abbrev N_law_row : List Str := ["text", "row", "e"]
theorem sc_law_row : FnScope N_law_row ["text"] (defScope s_law_row) := ⟨rfl, rfl, rfl, by decide +kernel, rfl, by decide +kernel, by decide +kernel⟩
section
variable {P : Program} {w : World} {K : PySem.W.Frag} {mg : Str → Option Value} {base : Heap} {C fI CF : Addr}
def spRow : Sp := fun vs H Q _ => ∃ (pl : List Nm) (ts : List Tie) (n : Int), vs = [.str (S (textT pl ts))] ∧ Shown pl ts ∧ RowIs pl ts n ∧ ∀ H' : Hp, Same H H' → Q (.int n) H'
theorem ok_row {f : Addr} {fd : FuncData} (TN : NtC K mg C fI CF) (XC : PySem.W.exmOne K (.ref C) (.ref C) = some true) (F : Fun K "_law_row" "_law_row" s_law_row f fd) (Cread_tree : CalX P w K mg base 4 "read_tree" (spReadX C)) : FnOk P w K mg base CX0 5 f fd ["text"] spRow := by
  refine F.ok sc_law_row (fun vs H Q E h => ?_) (fun cdv A outer s H vs Q E hr h => ?_)
  · obtain ⟨pl, ts, n, rfl, _⟩ := h
    rfl
  · obtain ⟨pl, ts, n, rfl, sh, ri, q⟩ := h
    refine ⟨_, (pss_cons (ps_set (i := 1) sc_law_row.nd rfl (.inl rfl) pe_non)
      (pss_cons (ps_try_as (i := 2) rfl rfl sc_law_row.nd rfl rfl ⟨rfl, by decide, .inl TN.gC⟩ takes0 (fun W pn xe tk _ => pss_one (ps_expr (pe_cX tk Cread_tree hr (by decide) rfl (pa_cons (pv 0) pa_nil)))) (fun a oe cls d pn hz hf => pss_one (ps_set (i := 1) sc_law_row.nd rfl (.inl rfl) (pe_xf TN.xf TN.no hz hf (pv 2)))))
      (pss_one (ps_ret (pv 1))))), ?_⟩
    refine ⟨_, rfl, pl, ts, rfl, sh, fun r c H' t S1 nt hd => ?_, fun r c H' dx S1 hx => ?_, fun i e he r no H' dx S1 hx => ?_⟩
    · have := (ri.short r).1
      omega
    · refine ⟨true, XC, fun _ a na => ?_, fun z => by cases z⟩
      rw [(ri.short r).2] at q
      exact ⟨_, rfl, rfl, rfl, dx, _, _, rfl, hx, rfl, _, rfl, q H' S1⟩
    · refine ⟨true, XC, fun _ a na => ?_, fun z => by cases z⟩
      rw [ri.bad he r no] at q
      exact ⟨_, rfl, rfl, rfl, dx, _, _, rfl, hx, rfl, _, rfl, q H' S1⟩
end
end Far

namespace Far
open PySem PySem.Spec PyProof.Rows L2
/-! ### trees are read, texts near them refused -/
theorem marks_inv {pl : List Nm} {ts : List Tie} (h : ∀ e ∈ ts, e.1 ∈ pl ∧ e.2.1 ∈ pl) : ∀ i : Nat, MarkInv (ts.take i) pl (marks (ts.take i))
  | 0 => by
    rw [List.take_zero]
    exact MarkInv.start pl
  | i + 1 => by
    have ih := marks_inv h i
    rw [List.take_add_one]
    cases e : ts[i]? with
    | none => simpa using ih
    | some x =>
      obtain ⟨h1, h2⟩ := h x (List.mem_of_getElem? e)
      show MarkInv (ts.take i ++ [x]) pl (marks (ts.take i ++ [x]))
      rw [marks_snoc]
      exact ih.next h1 h2
theorem split_at {ts : List Tie} {i : Nat} {e : Tie} (h : ts[i]? = some e) : ts = ts.take i ++ e :: ts.drop (i + 1) := by
  obtain ⟨hi, ei⟩ := List.getElem?_eq_some_iff.mp h
  rw [← ei, List.getElem_cons_drop, List.take_append_drop]
theorem IsTree.run {pl : List Nm} {ts : List Tie} (h : IsTree pl ts) : RunOk pl ts ts.length := fun j e _ he => by
  obtain ⟨i1, i2, _⟩ := h.ties e (List.mem_of_getElem? he)
  exact ⟨i1, i2, MarkInv.ne h (split_at he) (marks_inv (fun x hx => ⟨(h.ties x hx).1, (h.ties x hx).2.1⟩) j)⟩
theorem run_app {pl : List Nm} {ts us : List Tie} (h : RunOk pl ts ts.length) : RunOk pl (ts ++ us) ts.length := fun j e hj he => by
  rw [List.getElem?_append_left hj] at he
  have := h j e hj he
  rw [List.take_append_of_le_length (Nat.le_of_lt hj)]
  exact this
theorem merged_keep {mk : Nm → Nm} {a b x y : Nm} (h : mk x = mk y) : merged mk a b x = merged mk a b y := by
  unfold merged
  rw [h]
theorem merged_ends (mk : Nm → Nm) (a b : Nm) : merged mk a b a = merged mk a b b := by
  unfold merged
  rw [if_pos (rfl : mk b = mk b)]
  split
  · rfl
  · rfl
theorem marks_tie (ts : List Tie) : ∀ (i : Nat) (e : Tie), e ∈ ts.take i → marks (ts.take i) e.1 = marks (ts.take i) e.2.1
  | 0, e, h => by
    rw [List.take_zero] at h
    cases h
  | i + 1, e, h => by
    have ih := marks_tie ts i e
    rw [List.take_add_one] at h ⊢
    cases z : ts[i]? with
    | none =>
      rw [z] at h
      simpa using ih (by simpa using h)
    | some x =>
      rw [z] at h
      show marks (ts.take i ++ [x]) e.1 = marks (ts.take i ++ [x]) e.2.1
      rw [marks_snoc]
      rcases List.mem_append.mp h with h | h
      · exact merged_keep (ih h)
      · have ex : e = x := by simpa using h
        rw [ex]
        exact merged_ends _ _ _
theorem Grown.joined {os : List Nm} {es : List Tie} (g : Grown os es) {f : Nm → Nm} (h : ∀ e ∈ es, f e.1 = f e.2.1) : ∀ x ∈ os, ∀ y ∈ os, f x = f y := by
  induction g with
  | one a =>
    intro x hx y hy
    rw [List.mem_singleton.mp hx, List.mem_singleton.mp hy]
  | @leaf os es a b k e0 g ha hb he0 k1 k2 ih =>
    have ih := ih fun e he => h e (List.mem_append_left _ he)
    have h0 := h e0 (List.mem_append_right _ (List.mem_singleton.mpr rfl))
    have ab : f a = f b := by
      rcases he0 with z | z <;> rw [z] at h0
      · exact h0
      · exact h0.symm
    have all : ∀ x ∈ os ++ [b], f x = f a := fun x hx => by
      rcases List.mem_append.mp hx with hx | hx
      · exact ih x hx a ha
      · rw [List.mem_singleton.mp hx]
        exact ab.symm
    exact fun x hx y hy => (all x hx).trans (all y hy).symm
theorem IsTree.marks_eq {pl : List Nm} {ts : List Tie} (h : IsTree pl ts) {x y : Nm} (hx : x ∈ pl) (hy : y ∈ pl) : marks ts x = marks ts y := by
  have m : ∀ e ∈ ts, marks ts e.1 = marks ts e.2.1 := fun e he => by
    have := marks_tie ts ts.length e (by rw [List.take_length]; exact he)
    rw [List.take_length] at this
    exact this
  obtain ⟨os, es, g, p1, p2⟩ := h
  exact g.joined (fun e he => m e (p2.mem_iff.mpr he)) x (p1.mem_iff.mp hx) y (p1.mem_iff.mp hy)
theorem row_round {pl : List Nm} {ts : List Tie} (h : IsTree pl ts) {a b : Nm} (k : Int) (ha : a ∈ pl) (hb : b ∈ pl) : RowIs pl (ts ++ [(a, b, k)]) (1 + (ts.length : Int)) := by
  refine .inr ⟨ts.length, (a, b, k), by simp, run_app h.run, fun z => z.2.2 ?_, rfl⟩
  rw [List.take_append_of_le_length (Nat.le_refl _), List.take_length]
  exact h.marks_eq ha hb
theorem row_early {pl : List Nm} {ts : List Tie} (h : IsTree pl ts) {a b : Nm} (k : Int) (hb : b ∉ pl) : RowIs pl (ts ++ [(a, b, k)]) (1 + (ts.length : Int)) :=
  .inr ⟨ts.length, (a, b, k), by simp, run_app h.run, fun z => hb z.2.1, rfl⟩
theorem IsTree.run_erase {pl : List Nm} {ts : List Tie} (h : IsTree pl ts) (at_ : Nat) : RunOk pl (ts.eraseIdx at_) (ts.eraseIdx at_).length := fun j e hj he => by
  have sub : ∀ x ∈ ts.eraseIdx at_, x ∈ ts := fun x hx => List.mem_of_mem_eraseIdx hx
  have he' : e ∈ ts := sub e (List.mem_of_getElem? he)
  obtain ⟨i1, i2, _⟩ := h.ties e he'
  refine ⟨i1, i2, fun z => ?_⟩
  have M := marks_inv (pl := pl) (ts := ts.eraseIdx at_) (fun x hx => ⟨(h.ties x (sub x hx)).1, (h.ties x (sub x hx)).2.1⟩) j
  -- where e stands in ts
  obtain ⟨i, hi⟩ : ∃ i, ts[i]? = some e ∧ ∀ x ∈ (ts.eraseIdx at_).take j, x ∈ ts.take i ++ ts.drop (i + 1) := by
    by_cases c : j < at_
    · refine ⟨j, ?_, fun x hx => ?_⟩
      · rw [List.getElem?_eraseIdx_of_lt c] at he
        exact he
      · refine List.mem_append_left _ ?_
        rw [List.eraseIdx_eq_take_drop_succ, List.take_append_of_le_length (by rw [List.length_take]; have := (List.getElem?_eq_some_iff.mp he).1; rw [List.length_eraseIdx] at this; split at this <;> omega), List.take_take, Nat.min_eq_left (Nat.le_of_lt c)] at hx
        exact hx
    · refine ⟨j + 1, ?_, fun x hx => ?_⟩
      · rw [List.getElem?_eraseIdx_of_ge (by omega)] at he
        exact he
      · refine List.mem_append_left _ ?_
        rw [List.eraseIdx_eq_take_drop_succ] at hx
        have hx := List.mem_of_mem_take hx |> fun _ => hx
        obtain ⟨m, hm, em⟩ := List.mem_take_iff_getElem.mp hx
        have hm' : (ts.eraseIdx at_)[m]? = some x := by
          rw [List.eraseIdx_eq_take_drop_succ]
          exact List.getElem?_eq_some_iff.mpr ⟨by omega, em⟩
        have mj : m < j := by omega
        by_cases c2 : m < at_
        · rw [List.getElem?_eraseIdx_of_lt c2] at hm'
          exact List.mem_of_getElem? (i := m) (by rw [List.getElem?_take_of_lt (by omega)]; exact hm')
        · rw [List.getElem?_eraseIdx_of_ge (by omega)] at hm'
          exact List.mem_of_getElem? (i := m + 1) (by rw [List.getElem?_take_of_lt (by omega)]; exact hm')
  obtain ⟨f, hf, hne⟩ := h.cut (split_at hi.1)
  have hl : ∀ x ∈ (ts.eraseIdx at_).take j, f x.1 = f x.2.1 := fun x hx => hf x (hi.2 x hx)
  exact hne (by rw [← M f hl _ i1, ← M f hl _ i2, z])
theorem row_out {pl : List Nm} {ts : List Tie} (h : IsTree pl ts) {at_ : Nat} (hat : at_ < ts.length) : RowIs pl (ts.eraseIdx at_) (ts.length : Int) := by
  have l := h.len
  have le : (ts.eraseIdx at_).length = ts.length - 1 := List.length_eraseIdx_of_lt hat
  exact .inl ⟨h.run_erase at_, by omega, by omega⟩
theorem Fine.shown {pl : List Nm} {ts : List Tie} (F : Fine pl ts) : Shown pl ts := ⟨F.ne, F.tree.nodup, F.ok, F.len, fun e he => ⟨(F.okT he).1, (F.okT he).2, (F.tree.ties e he).2.2.1, (F.tree.ties e he).2.2.2⟩, by have := F.tree.len; have := F.len; omega⟩
end Far

namespace Far
open PySem PySem.Spec PyProof.Rows L2
open C8 (pss_cut tCut)
open SX (S)
theorem DeckAt.tup {H H' : Hp} {d c a : Addr} {n : Nat} {xs : List V} (D : DeckAt H d c n) (h : TupAt H a xs) (s : SmX d H H') : TupAt H' a xs := by
  obtain ⟨_, _, _, _, _, h1, _⟩ := D
  rcases h with h | ⟨o, e, h⟩
  · exact .inl (s _ _ (ne_of h h1 (fun z => by cases z)) h)
  · exact .inr ⟨o, e, s _ _ (ne_of h h1 (fun z => by cases z)) h⟩
abbrev s_law_mixed : Stmt := topS 22
abbrev N_law_mixed : List Str := ["deck", "things", "left", "thing"]
theorem sc_law_mixed : FnScope N_law_mixed ["deck", "things"] (defScope s_law_mixed) := ⟨rfl, rfl, rfl, by decide +kernel, rfl, by decide +kernel, by decide +kernel⟩
section
variable {P : Program} {w : World} {K : PySem.W.Frag} {mg : Str → Option Value} {base : Heap}
def spMixed : Sp := fun vs H Q _ => ∃ (d c a : Addr) (n : Nat) (xs : List V), vs = [.ref d, .ref a] ∧ DeckAt H d c n ∧ n < 90000 ∧ TupAt H a xs ∧ xs.length ≤ 1000 ∧
  ∀ (H' : Hp) (D : Addr) (ys : List V), ys.Perm xs → H D = none → H' D = some (.lst ys) → SmX d H H' → DeckAt H' d c (n + xs.length) → Q (.ref D) H'
theorem ok_mixed {f : Addr} {fd : FuncData} (F : Fun K "_law_mixed" "_law_mixed" s_law_mixed f fd) (T : Txt mg) (C_law_next : Cal P w K mg base 2 "_law_next" spNext) : FnOk P w K mg base CX0 3 f fd ["deck", "things"] spMixed := by
  refine F.ok sc_law_mixed (fun vs H Q E h => ?_) (fun cdv A outer s H vs Q E hr h => ?_)
  · obtain ⟨d, c, a, n, xs, rfl, _⟩ := h
    rfl
  · obtain ⟨d, c, a, n, xs, rfl, D0, n9, hA, xl, q⟩ := h
    refine ⟨_, (pss_cons (ps_set (i := 2) sc_law_mixed.nd rfl (.inr rfl) (pe_callTy call_list_of (by rfl) T.list bt_list (pa_cons (pv 1) pa_nil)))
      (pss_one (ps_ret (pe_lc (own := [("thing", 3)]) (g := gName 3) (tt := tYes) rfl sc_law_mixed.nd (pi_tup (pv 1)) (blkOk_by (N := N_law_mixed) (sc := defScope s_law_mixed) (by decide +kernel)) (fun _ _ _ _ _ => pg_name (i := 3) sc_law_mixed.nd rfl (Or.inl rfl)) (fun _ _ _ _ _ => pts_nil) (fun _ _ _ _ _ => (show PE _ _ (tBM K "list" rPopAt _ _) from pe_bm PySem.F.plainAttrs_list PySem.F.slot_list_pop PySem.F.type_list_pop mt_popAt (pv 2) (pa_cons (pe_c C_law_next hr (by decide) rfl (pa_cons (pv 0) (pa_cons (pe_callB (lenK (K := K)) (by rfl) T.len bt_len (pa_cons (pv 2) pa_nil)) pa_nil))) pa_nil))))))), ?_⟩
    refine ⟨_, rfl, a, _, rfl, .inr hA.sq, fun lf nlf => ?_⟩
    have lfd := D0.nd nlf
    have lfc := D0.nc nlf
    have A1 := hA.same (same_new (o := .lst xs) (Same.refl H) nlf)
    have DK1 := D0.new (o := .lst xs) nlf
    have hlf : (upd H lf (.lst xs)) lf = some (.lst xs) := upd_same
    have S1 : SmX d H (upd H lf (.lst xs)) := (SmX.refl H).new nlf
    generalize upd H lf (.lst xs) = H1 at A1 DK1 hlf S1
    refine ⟨_, rfl, a, rfl, ⟨_, A1.sq⟩, fun D nD => ?_⟩
    have Dd := DK1.nd nD
    have Dc := DK1.nc nD
    have Dlf : D ≠ lf := (ne_of_none hlf nD).symm
    have D0' : H D = none := S1.free nD Dd
    have lf0 : H lf = none := nlf
    have at_ : ∀ {H2 : Hp}, SmX d H H2 → TupAt H2 a xs := fun {H2} s => D0.tup hA s
    refine lc_tup (K := K) (a := a) (xs := xs) (fun i H'' => ∃ l1 l2 : List V, l1.length = i ∧ (l1 ++ l2).Perm xs ∧ H'' D = some (.lst l1) ∧ H'' lf = some (.lst l2) ∧ SmX d H H'' ∧ DeckAt H'' d c (n + i)) ⟨[], xs, rfl, List.Perm.refl _, upd_same, by rw [upd_ne Dlf.symm]; exact hlf, S1.new nD, DK1.new nD⟩ (fun i H'' _ hP => ?_) (fun i x H'' hi hP => ?_) (fun H'' hP => ?_)
    · obtain ⟨_, _, _, _, _, _, s2, _⟩ := hP
      exact (at_ s2).sq
    · obtain ⟨l1, l2, hl1, pm, hD, hlf2, S2, DK2⟩ := hP
      have ll := pm.length_eq
      rw [List.length_append] at ll
      have il : i < xs.length := (List.getElem?_eq_some_iff.mp hi).1
      refine ⟨rfl, _, rfl, .inl ⟨rfl, _, SqL.of hlf2⟩, _, rfl, _, rfl, .ref lf, _, rfl, .inl ⟨_, SqL.of hlf2, rfl⟩, d, c, _, _, rfl, DK2, by omega, by omega, by omega, fun H3 r r0 r1 S3 DK3 => ?_⟩
      have hD3 := S3 D _ Dd hD
      have hlf3 := S3 lf _ lfd hlf2
      have hx : l2[r.toNat]? = some (l2[r.toNat]'(by omega)) := List.getElem?_eq_getElem (by omega)
      generalize l2[r.toNat]'(by omega) = y at hx
      refine ⟨lf, _, r, r.toNat, y, rfl, rfl, hlf3, by omega, by omega, seq_ix r0 r1, hx, ?_⟩
      have hD4 : (upd H3 lf (.lst (l2.eraseIdx r.toNat))) D = some (.lst l1) := by
        rw [upd_ne Dlf]
        exact hD3
      refine ⟨_, hD4, sz_lt (by omega), l1 ++ [y], l2.eraseIdx r.toNat, by rw [List.length_append, hl1]; rfl, perm_pick pm hx, upd_same, by rw [upd_ne Dlf.symm, upd_same], ((S2.trans S3).put lf0).put D0', ((DK3.put lfd lfc).put Dd Dc)⟩
    · obtain ⟨l1, l2, hl1, pm, hD, hlf2, S2, DK2⟩ := hP
      have ll := pm.length_eq
      rw [List.length_append] at ll
      have e2 : l2 = [] := List.length_eq_zero_iff.mp (by omega)
      subst e2
      rw [List.append_nil] at pm
      exact q _ D l1 pm D0' hD S2 DK2
end
end Far

namespace Far
open PySem PySem.Spec PyProof.Rows L2
/-! ### next(zip(a, b)), whatever became of the pair that was given out -/
abbrev ZipAt (h : Heap) (z TI TO : Addr) (f0 f1 : Value) : Prop := h.get? z = some { cls := .type "zip", dict := none, data := .fields #[f0, f1, .bool false, .ref TI, .ref TO], slots := #[] }
inductive ZipOut : Value → Value → Prop
  | free (b : Bool) : ZipOut .none (.bool b)
  | out (T : Nat) (b : Bool) : ZipOut (rawInt T) (.bool b)
section
variable {prog : Program} {w : World} {A : Around} {E : Value → Shared → Prop} {s : Shared} {z TI TO i1 i2 : Addr} {fp1 fp2 : List Addr} {n1 n2 i : Nat} {P1 P2 : Nat → Value → Prop} {St1 St2 : Nat → Heap → Prop} {a1 a2 f0 f1 : Value}
theorem look_alive {a : Addr} {Q : Option Obj → Shared → Prop} (h : Q (s.heap.get? a) s) : wpAny (model prog w) A (loadIfAlive a) Q E s := fun _ _ _ => h
theorem zip_asks {Q : Bool → Shared → Prop} (hz : ZipAt s.heap z TI TO f0 f1) (ok : ZipOut f0 f1)
    (h : ∀ b h' g0 g1, ZipOut g0 g1 → ZipAt h' z TI TO g0 g1 → Heap.SameBut z s.heap h' → Q b { s with heap := h' }) : wpAny (model prog w) A (Builtin.SmallTypes.ownedTupleIsFree (.ref z)) Q E s := by
  have same : Heap.SameBut z s.heap s.heap := Heap.SameBut.refl _ _
  unfold Builtin.SmallTypes.ownedTupleIsFree
  cases ok with
  | free b => exact wpAny_bind (wpAny_field hz rfl (x := .none) rfl (wpAny_pure (h true s.heap _ _ (.free b) hz same)))
  | out T b =>
    refine wpAny_bind (wpAny_field hz rfl (x := rawInt T) rfl ?_)
    show wpAny _ _ (loadIfAlive ((T : Int).toNat) >>= _) _ _ _
    refine wpAny_bind (look_alive ?_)
    rw [Int.toNat_natCast]
    cases e : s.heap.get? T with
    | none =>
      simp only [Option.isNone_none, if_true]
      exact wpAny_pure (h true s.heap _ _ (.out T b) hz same)
    | some o =>
      simp only [Option.isNone_some, Bool.false_eq_true, if_false]
      refine wpAny_bind (wpAny_field hz rfl (x := .bool b) rfl ?_)
      cases b with
      | true =>
        rw [if_neg (show ¬ ((Value.bool true != Value.bool true) = true) from Bool.false_ne_true)]
        exact wpAny_pure (h false s.heap _ _ (.out T true) hz same)
      | false =>
        rw [if_pos (show (Value.bool false != Value.bool true) = true from rfl)]
        exact wpAny_bind (wpAny_setField_rec hz (by simp) fun h1 z1 s1 => wpAny_pure (h false h1 _ _ (.out T true) z1 s1))
/-- a pair is drawn -/
theorem zip_item {Q : Value → Shared → Prop} (S : ZipSep2 z TI TO i1 i2 fp1 fp2) (D1 : Draws prog w A i1 fp1 n1 P1 St1) (D2 : Draws prog w A i2 fp2 n2 P2 St2)
    (hz : ZipAt s.heap z TI TO f0 f1) (ok : ZipOut f0 f1) (hTI : IsTupOf2 s.heap TI (.ref i1) (.ref i2)) (hTO : IsTupOf2 s.heap TO a1 a2) (st1 : St1 i s.heap) (st2 : St2 i s.heap) (lt1 : i < n1) (lt2 : i < n2)
    (hQ : ∀ x1 x2 h' tk g0 g1 b1 b2, P1 i x1 → P2 i x2 → ZipOut g0 g1 → ZipAt h' z TI TO g0 g1 → IsTupOf2 h' TO b1 b2 → St1 (i + 1) h' → St2 (i + 1) h' → IsTupOf2 h' s.heap.objs.size x1 x2 → h'.objs.size = s.heap.objs.size + 1 →
      (∀ c o, c ≠ z → c ≠ TO → c ≠ i1 → c ≠ i2 → s.heap.get? c = some o → h'.get? c = some o) → Q (.ref s.heap.objs.size) { s with heap := h', toks := tk }) :
    wpAny (model prog w) A (Builtin.«zip.__next__» ⟨[.ref z], []⟩) (fun fin s' => ∃ v, fin = .done (.ret v) ∧ Q v s') E s := by
  obtain ⟨hp, gs, dr, tk0, os⟩ := s
  show wpAny _ _ (field (.ref z) 2 >>= _) _ _ _
  refine wpAny_bind (wpAny_field hz rfl (x := .bool false) rfl ?_)
  show wpAny _ _ (field (.ref z) 3 >>= _) _ _ _
  refine wpAny_bind (wpAny_field hz rfl (x := .ref TI) rfl (wpAny_bind (wpAny_seqItems hTI rfl ?_)))
  show wpAny _ _ (Builtin.SmallTypes.ownedTupleIsFree (.ref z) >>= _) _ _ _
  refine wpAny_bind (zip_asks hz ok fun b k0 g0 g1 ok0 z0 e0 => ?_)
  replace e0 : Heap.SameBut z hp k0 := e0
  cases b with
  | true =>
    simp only [if_true]
    refine wpAny_bind (wpAny_rule (wpAny_bind (wpAny_field z0 rfl (x := .ref TO) rfl (wpAny_bind (wpAny_setField_rec z0 (by simp) fun k1 z1 e1 => ?_)))))
    replace z1 : ZipAt k1 z TI TO .ellipsis g1 := z1
    replace e1 : Heap.SameBut z k0 k1 := e1
    have q1 : Heap.ExtBut z hp k1 := fun c o hc x => e1.extBut _ _ hc (e0.extBut _ _ hc x)
    have T1 : IsTupOf2 k1 TO a1 a2 := q1 _ _ S.TOz hTO
    have u1 : St1 i k1 := D1.over (D1.over st1 e0 S.zf1) e1 S.zf1
    have u2 : St2 i k1 := D2.over (D2.over st2 e0 S.zf2) e1 S.zf2
    refine wpAny_bind ?_
    simp only [List.zipIdx_cons, List.zipIdx_nil, List.forIn_cons, List.forIn_nil]
    refine wpAny_bind (wpAny_bind (wpAny_onRaise ?_))
    show wpAny _ _ (Builtin.SmallTypes.nextOf (.ref i1) >>= _) _ _ ⟨k1, gs, dr, tk0, os⟩
    refine wpAny_bind (D1.item i _ _ _ lt1 u1 fun x1 k2 t2 px1 u1' e2 => wpAny_pure ?_)
    replace e2 : Heap.SameBut i1 k1 k2 := e2
    have T2 : IsTupOf2 k2 TO a1 a2 := e2.extBut _ _ S.Ti1 T1
    refine wpAny_bind (wpAny_seqItems (s := ⟨k2, gs, dr, t2, os⟩) T2 rfl (wpAny_bind (updateSeq_IsTupOf2 (s := ⟨k2, gs, dr, t2, os⟩) T2 fun k3 T3 e3 => wpAny_bind (wpAny_letGo (wpAny_pure ?_)))))
    replace T3 : IsTupOf2 k3 TO x1 a2 := T3
    replace e3 : Heap.SameBut TO k2 k3 := e3
    refine wpAny_bind (wpAny_bind (wpAny_onRaise ?_))
    show wpAny _ _ (Builtin.SmallTypes.nextOf (.ref i2) >>= _) _ _ ⟨k3, gs, dr, t2, os⟩
    refine wpAny_bind (D2.item i _ _ _ lt2 (D2.over (D2.over u2 e2 S.sep1_2) e3 S.Tf2) fun x2 k4 t4 px2 u2' e4 => wpAny_pure ?_)
    replace e4 : Heap.SameBut i2 k3 k4 := e4
    have T4 : IsTupOf2 k4 TO x1 a2 := e4.extBut _ _ S.Ti2 T3
    refine wpAny_bind (wpAny_seqItems (s := ⟨k4, gs, dr, t4, os⟩) T4 rfl (wpAny_bind (updateSeq_IsTupOf2 (s := ⟨k4, gs, dr, t4, os⟩) T4 fun k5 T5 e5 => wpAny_bind (wpAny_letGo (wpAny_pure (wpAny_pure ?_))))))
    replace T5 : IsTupOf2 k5 TO x1 x2 := T5
    replace e5 : Heap.SameBut TO k4 k5 := e5
    refine wpAny_bind (wpAny_seqItems (s := ⟨k5, gs, dr, t4, os⟩) T5 rfl (wpAny_bind (wpAny_newTuple ?_)))
    have sz : k5.objs.size = hp.objs.size := by rw [e5.1, e4.1, e3.1, e2.1, e1.1, e0.1]
    have z5 : ZipAt k5 z TI TO .ellipsis g1 := e5.extBut _ _ S.TOz.symm (e4.extBut _ _ S.zi2 (e3.extBut _ _ S.TOz.symm (e2.extBut _ _ S.zi1 z1)))
    have q5 : ∀ c o, c ≠ z → c ≠ TO → c ≠ i1 → c ≠ i2 → hp.get? c = some o → k5.get? c = some o := fun c o hz hT h1 h2 x => e5.extBut _ _ hT (e4.extBut _ _ h2 (e3.extBut _ _ hT (e2.extBut _ _ h1 (q1 _ _ hz x))))
    have v1 : St1 (i + 1) k5 := D1.over (D1.over (D1.over u1' e3 S.Tf1) e4 S.sep2_1) e5 S.Tf1
    have v2 : St2 (i + 1) k5 := D2.over u2' e5 S.Tf2
    have zlt : z < k5.objs.size := Heap.lt_size z5
    show wpAny _ _ (Builtin.SmallTypes.ownedTupleHandOut (.ref z) (.ref k5.objs.size) >>= _) _ _ ⟨k5.push { cls := .type "tuple", data := .seq #[x1, x2] }, gs, dr, t4, os⟩
    refine wpAny_bind ?_
    unfold Builtin.SmallTypes.ownedTupleHandOut
    have z6 : ZipAt (k5.push { cls := .type "tuple", data := .seq #[x1, x2] }) z TI TO .ellipsis g1 := Heap.get?_push_of_some _ z5
    refine wpAny_bind (wpAny_setField_rec z6 (by simp) fun k7 z7 e7 => ?_)
    replace z7 : ZipAt k7 z TI TO (rawInt k5.objs.size) g1 := z7
    refine wpAny_setField_rec z7 (by simp) fun k8 z8 e8 => ?_
    replace z8 : ZipAt k8 z TI TO (rawInt k5.objs.size) (.bool false) := z8
    replace e7 : Heap.SameBut z (k5.push { cls := .type "tuple", data := .seq #[x1, x2] }) k7 := e7
    replace e8 : Heap.SameBut z k7 k8 := e8
    have up : ∀ c o, c ≠ z → k5.get? c = some o → k8.get? c = some o := fun c o hc x => e8.extBut _ _ hc (e7.extBut _ _ hc (Heap.get?_push_of_some _ x))
    have T8 : IsTupOf2 k8 k5.objs.size x1 x2 := e8.extBut _ _ (Nat.ne_of_gt zlt) (e7.extBut _ _ (Nat.ne_of_gt zlt) (Heap.get?_push_size _ rfl))
    have s8 : k8.objs.size = k5.objs.size + 1 := by rw [e8.1, e7.1, Heap.size_push]
    refine wpAny_pure ⟨_, rfl, ?_⟩
    show Q (.ref k5.objs.size) ⟨k8, gs, dr, t4, os⟩
    rw [sz] at T8 s8 z8 ⊢
    exact hQ x1 x2 k8 t4 _ _ _ _ px1 px2 (.out _ false) z8 (up _ _ S.TOz T5) (D1.frame _ _ _ v1 fun c hc o x => up c o (fun q => S.zf1 (q ▸ hc)) x) (D2.frame _ _ _ v2 fun c hc o x => up c o (fun q => S.zf2 (q ▸ hc)) x) T8 s8 fun c o hz hT h1 h2 x => up c o hz (q5 c o hz hT h1 h2 x)
  | false =>
    simp only [Bool.false_eq_true, if_false]
    refine wpAny_bind ?_
    rw [← Array.forIn_toList]
    simp only [List.forIn_cons, List.forIn_nil]
    refine wpAny_bind (wpAny_bind (wpAny_holding ?_))
    show wpAny _ _ (Builtin.SmallTypes.nextOf (.ref i1) >>= _) _ _ ⟨k0, gs, dr, tk0, os⟩
    refine wpAny_bind (D1.item i _ _ _ lt1 (D1.over st1 e0 S.zf1) fun x1 k1 t1 px1 u1 e1 => wpAny_pure (wpAny_pure ?_))
    replace e1 : Heap.SameBut i1 k0 k1 := e1
    refine wpAny_bind (wpAny_bind (wpAny_holding ?_))
    show wpAny _ _ (Builtin.SmallTypes.nextOf (.ref i2) >>= _) _ _ ⟨k1, gs, dr, t1, os⟩
    refine wpAny_bind (D2.item i _ _ _ lt2 (D2.over (D2.over st2 e0 S.zf2) e1 S.sep1_2) fun x2 k2 t2 px2 u2 e2 => wpAny_pure (wpAny_pure (wpAny_pure ?_)))
    replace e2 : Heap.SameBut i2 k1 k2 := e2
    show wpAny _ _ (newTuple [x1, x2] >>= _) _ _ ⟨k2, gs, dr, t2, os⟩
    refine wpAny_bind (wpAny_newTuple ?_)
    have sz : k2.objs.size = hp.objs.size := by rw [e2.1, e1.1, e0.1]
    have z2 : ZipAt k2 z TI TO g0 g1 := e2.extBut _ _ S.zi2 (e1.extBut _ _ S.zi1 z0)
    have q2 : ∀ c o, c ≠ z → c ≠ i1 → c ≠ i2 → hp.get? c = some o → k2.get? c = some o := fun c o hz h1 h2 x => e2.extBut _ _ h2 (e1.extBut _ _ h1 (e0.extBut _ _ hz x))
    have up : ∀ c o, k2.get? c = some o → (k2.push { cls := .type "tuple", data := .seq #[x1, x2] }).get? c = some o := fun c o x => Heap.get?_push_of_some _ x
    have T3 : IsTupOf2 (k2.push { cls := .type "tuple", data := .seq #[x1, x2] }) k2.objs.size x1 x2 := Heap.get?_push_size _ rfl
    have s3 : (k2.push { cls := .type "tuple", data := .seq #[x1, x2] }).objs.size = k2.objs.size + 1 := Heap.size_push ..
    refine wpAny_pure ⟨_, rfl, ?_⟩
    show Q (.ref k2.objs.size) ⟨k2.push { cls := .type "tuple", data := .seq #[x1, x2] }, gs, dr, t2, os⟩
    rw [sz] at T3 s3 ⊢
    exact hQ x1 x2 _ t2 g0 g1 _ _ px1 px2 ok0 (up _ _ z2) (up _ _ (q2 _ _ S.TOz S.Ti1 S.Ti2 hTO)) (D1.frame _ _ _ (D1.over u1 e2 S.sep2_1) fun c _ o x => up c o x) (D2.frame _ _ _ u2 fun c _ o x => up c o x) T3 s3 fun c o hz _ h1 h2 x => up c o (q2 c o hz h1 h2 x)
/-- one of both is at its end -/
theorem zip_end {Q : Fin → Shared → Prop} (S : ZipSep2 z TI TO i1 i2 fp1 fp2) (D1 : Draws prog w A i1 fp1 n1 P1 St1) (D2 : Draws prog w A i2 fp2 n2 P2 St2)
    (hz : ZipAt s.heap z TI TO f0 f1) (ok : ZipOut f0 f1) (hTI : IsTupOf2 s.heap TI (.ref i1) (.ref i2)) (hTO : IsTupOf2 s.heap TO a1 a2) (st1 : St1 i s.heap) (st2 : St2 i s.heap) (le1 : i ≤ n1) (le2 : i ≤ n2) (he : i = n1 ∨ i = n2)
    (hE : ∀ h' tk e, (∀ c o, c ≠ z → c ≠ TO → c ≠ i1 → c ≠ i2 → s.heap.get? c = some o → h'.get? c = some o) → (∃ o, h'.get? e = some o ∧ o.cls = .type "StopIteration") → E (.ref e) { s with heap := h', toks := tk }) :
    wpAny (model prog w) A (Builtin.«zip.__next__» ⟨[.ref z], []⟩) Q E s := by
  obtain ⟨hp, gs, dr, tk0, os⟩ := s
  show wpAny _ _ (field (.ref z) 2 >>= _) _ _ _
  refine wpAny_bind (wpAny_field hz rfl (x := .bool false) rfl ?_)
  show wpAny _ _ (field (.ref z) 3 >>= _) _ _ _
  refine wpAny_bind (wpAny_field hz rfl (x := .ref TI) rfl (wpAny_bind (wpAny_seqItems hTI rfl ?_)))
  show wpAny _ _ (Builtin.SmallTypes.ownedTupleIsFree (.ref z) >>= _) _ _ _
  refine wpAny_bind (zip_asks hz ok fun b k0 g0 g1 ok0 z0 e0 => ?_)
  replace e0 : Heap.SameBut z hp k0 := e0
  cases b with
  | true =>
    simp only [if_true]
    refine wpAny_bind (wpAny_rule (wpAny_bind (wpAny_field z0 rfl (x := .ref TO) rfl (wpAny_bind (wpAny_setField_rec z0 (by simp) fun k1 z1 e1 => ?_)))))
    replace z1 : ZipAt k1 z TI TO .ellipsis g1 := z1
    replace e1 : Heap.SameBut z k0 k1 := e1
    have q1 : Heap.ExtBut z hp k1 := fun c o hc x => e1.extBut _ _ hc (e0.extBut _ _ hc x)
    have u1 : St1 i k1 := D1.over (D1.over st1 e0 S.zf1) e1 S.zf1
    have u2 : St2 i k1 := D2.over (D2.over st2 e0 S.zf2) e1 S.zf2
    have T1 : IsTupOf2 k1 TO a1 a2 := q1 _ _ S.TOz hTO
    have fin : ∀ (k : Heap) (t : Nat) (e : Addr) (z9 : ZipAt k z TI TO .ellipsis g1) (q9 : ∀ c o, c ≠ z → c ≠ TO → c ≠ i1 → c ≠ i2 → hp.get? c = some o → k.get? c = some o) (he : ∃ o, k.get? e = some o ∧ o.cls = .type "StopIteration"),
        wpAny (model prog w) A (setField (.ref z) 0 .none) (fun _ s' => E (.ref e) s') E ⟨k, gs, dr, t, os⟩ := fun k t e z9 q9 ⟨o, ho, hc⟩ => by
      have ez : e ≠ z := fun x => by
        subst x
        rw [z9] at ho
        cases ho
        simp at hc
      refine wpAny_setField_rec (s := ⟨k, gs, dr, t, os⟩) z9 (by simp) fun k' _ e' => ?_
      replace e' : Heap.SameBut z k k' := e'
      exact hE k' t e (fun c o hz hT h1 h2 x => e'.extBut _ _ hz (q9 c o hz hT h1 h2 x)) ⟨o, e'.extBut _ _ ez ho, hc⟩
    refine wpAny_bind ?_
    simp only [List.zipIdx_cons, List.zipIdx_nil, List.forIn_cons, List.forIn_nil]
    refine wpAny_bind (wpAny_bind (wpAny_onRaise ?_))
    show wpAny _ _ (Builtin.SmallTypes.nextOf (.ref i1) >>= _) _ _ ⟨k1, gs, dr, tk0, os⟩
    by_cases lt1 : i < n1
    · refine wpAny_bind (D1.item i _ _ _ lt1 u1 fun x1 k2 t2 px1 u1' e2 => wpAny_pure ?_)
      replace e2 : Heap.SameBut i1 k1 k2 := e2
      have T2 : IsTupOf2 k2 TO a1 a2 := e2.extBut _ _ S.Ti1 T1
      refine wpAny_bind (wpAny_seqItems (s := ⟨k2, gs, dr, t2, os⟩) T2 rfl (wpAny_bind (updateSeq_IsTupOf2 (s := ⟨k2, gs, dr, t2, os⟩) T2 fun k3 T3 e3 => wpAny_bind (wpAny_letGo (wpAny_pure ?_)))))
      replace e3 : Heap.SameBut TO k2 k3 := e3
      have i2e : i = n2 := by omega
      refine wpAny_bind (wpAny_bind (wpAny_onRaise ?_))
      show wpAny _ _ (Builtin.SmallTypes.nextOf (.ref i2) >>= _) _ _ ⟨k3, gs, dr, t2, os⟩
      refine wpAny_bind (D2.done ⟨k3, gs, dr, t2, os⟩ _ _ (by rw [← i2e]; exact D2.over (D2.over u2 e2 S.sep1_2) e3 S.Tf2) fun k4 e x4 ho => ?_)
      replace x4 : Heap.ExtBut i2 k3 k4 := x4
      exact fin k4 t2 e (x4 _ _ S.zi2 (e3.extBut _ _ S.TOz.symm (e2.extBut _ _ S.zi1 z1))) (fun c o hz hT h1 h2 x => x4 _ _ h2 (e3.extBut _ _ hT (e2.extBut _ _ h1 (q1 _ _ hz x)))) ho
    · have i1e : i = n1 := by omega
      refine wpAny_bind (D1.done ⟨k1, gs, dr, tk0, os⟩ _ _ (by rw [← i1e]; exact u1) fun k2 e x2 ho => ?_)
      replace x2 : Heap.ExtBut i1 k1 k2 := x2
      exact fin k2 tk0 e (x2 _ _ S.zi1 z1) (fun c o hz hT h1 h2 x => x2 _ _ h1 (q1 _ _ hz x)) ho
  | false =>
    simp only [Bool.false_eq_true, if_false]
    refine wpAny_bind ?_
    rw [← Array.forIn_toList]
    simp only [List.forIn_cons, List.forIn_nil]
    refine wpAny_bind (wpAny_bind (wpAny_holding ?_))
    show wpAny _ _ (Builtin.SmallTypes.nextOf (.ref i1) >>= _) _ _ ⟨k0, gs, dr, tk0, os⟩
    by_cases lt1 : i < n1
    · refine wpAny_bind (D1.item i _ _ _ lt1 (D1.over st1 e0 S.zf1) fun x1 k1 t1 px1 u1 e1 => wpAny_pure (wpAny_pure ?_))
      replace e1 : Heap.SameBut i1 k0 k1 := e1
      have i2e : i = n2 := by omega
      refine wpAny_bind (wpAny_bind (wpAny_holding ?_))
      show wpAny _ _ (Builtin.SmallTypes.nextOf (.ref i2) >>= _) _ _ ⟨k1, gs, dr, t1, os⟩
      refine wpAny_bind (D2.done ⟨k1, gs, dr, t1, os⟩ _ _ (by rw [← i2e]; exact D2.over (D2.over st2 e0 S.zf2) e1 S.sep1_2) fun k2 e x2 ho => ?_)
      replace x2 : Heap.ExtBut i2 k1 k2 := x2
      exact hE k2 t1 e (fun c o hz hT h1 h2 x => x2 _ _ h2 (e1.extBut _ _ h1 (e0.extBut _ _ hz x))) ho
    · have i1e : i = n1 := by omega
      refine wpAny_bind (D1.done ⟨k0, gs, dr, tk0, os⟩ _ _ (by rw [← i1e]; exact D1.over st1 e0 S.zf1) fun k1 e x1 ho => ?_)
      replace x1 : Heap.ExtBut i1 k0 k1 := x1
      exact hE k1 tk0 e (fun c o hz hT h1 h2 x => x1 _ _ h1 (e0.extBut _ _ hz x)) ho
end
end Far

namespace Far
open PySem PySem.Spec PyProof.Rows L2
section
variable {prog : Program} {w : World} {A : Around} {E : Value → Shared → Prop} {s : Shared} {z TI TO i1 i2 : Addr} {fp1 fp2 : List Addr} {n1 n2 i : Nat} {P1 P2 : Nat → Value → Prop} {St1 St2 : Nat → Heap → Prop} {a1 a2 f0 f1 : Value}
theorem next_zip {Q : Option Value → Shared → Prop} (S : ZipSep2 z TI TO i1 i2 fp1 fp2) (D1 : Draws prog w A.in1 i1 fp1 n1 P1 St1) (D2 : Draws prog w A.in1 i2 fp2 n2 P2 St2)
    (hz : ZipAt s.heap z TI TO f0 f1) (ok : ZipOut f0 f1) (hTI : IsTupOf2 s.heap TI (.ref i1) (.ref i2)) (hTO : IsTupOf2 s.heap TO a1 a2) (st1 : St1 i s.heap) (st2 : St2 i s.heap) (lt1 : i < n1) (lt2 : i < n2)
    (hQ : ∀ x1 x2 h' tk g0 g1 b1 b2, P1 i x1 → P2 i x2 → ZipOut g0 g1 → ZipAt h' z TI TO g0 g1 → IsTupOf2 h' TO b1 b2 → St1 (i + 1) h' → St2 (i + 1) h' → IsTupOf2 h' s.heap.objs.size x1 x2 → h'.objs.size = s.heap.objs.size + 1 →
      (∀ c o, c ≠ z → c ≠ TO → c ≠ i1 → c ≠ i2 → s.heap.get? c = some o → h'.get? c = some o) → Q (some (.ref s.heap.objs.size)) { s with heap := h', toks := tk }) :
    wpAny (model prog w) A (pyNext (.ref z)) Q E s := by
  have ty : s.TypeIs (.ref z) "zip" := ⟨_, hz, rfl⟩
  unfold pyNext
  exact wpAny_bind (wpAny_attempt (wpAny_callSpecial?_slot (name := Str.ofString "__next__") ty F.slot_zip_next
    (wpAny_call_entry F.slot_zip_next ty F.entry_zip_next (zip_item S D1 D2 hz ok hTI hTO st1 st2 lt1 lt2 fun x1 x2 h' tk g0 g1 b1 b2 c1 c2 c3 c4 c5 c6 c7 c8 c9 c10 => wpAny_pure (hQ x1 x2 h' tk g0 g1 b1 b2 c1 c2 c3 c4 c5 c6 c7 c8 c9 c10)) (F.args_zip_next_1 _))))
theorem next_zip_end {Q : Option Value → Shared → Prop} (S : ZipSep2 z TI TO i1 i2 fp1 fp2) (D1 : Draws prog w A.in1 i1 fp1 n1 P1 St1) (D2 : Draws prog w A.in1 i2 fp2 n2 P2 St2)
    (hz : ZipAt s.heap z TI TO f0 f1) (ok : ZipOut f0 f1) (hTI : IsTupOf2 s.heap TI (.ref i1) (.ref i2)) (hTO : IsTupOf2 s.heap TO a1 a2) (st1 : St1 i s.heap) (st2 : St2 i s.heap) (le1 : i ≤ n1) (le2 : i ≤ n2) (he : i = n1 ∨ i = n2)
    (hQ : ∀ h' tk, (∀ c o, c ≠ z → c ≠ TO → c ≠ i1 → c ≠ i2 → s.heap.get? c = some o → h'.get? c = some o) → Q none { s with heap := h', toks := tk }) : wpAny (model prog w) A (pyNext (.ref z)) Q E s := by
  have ty : s.TypeIs (.ref z) "zip" := ⟨_, hz, rfl⟩
  unfold pyNext
  refine wpAny_bind (wpAny_attempt (wpAny_callSpecial?_slot (name := Str.ofString "__next__") ty F.slot_zip_next
    (wpAny_call_entry F.slot_zip_next ty F.entry_zip_next (zip_end S D1 D2 hz ok hTI hTO st1 st2 le1 le2 he fun h' tk e hk ⟨o, ho, hc⟩ => ?_) (F.args_zip_next_1 _))))
  exact wpAny_bind (wpAny_isInstance (T := "StopIteration") (b := true) ⟨o, ho, hc⟩ isSubtype_stop (wpAny_pure (hQ _ _ hk)))
theorem iter_zip {Q : Value → Shared → Prop} (hz : ZipAt s.heap z TI TO f0 f1) (h : Q (.ref z) s) : wpAny (model prog w) A (pyIter (.ref z)) Q E s := by
  have ty : s.TypeIs (.ref z) "zip" := ⟨_, hz, rfl⟩
  refine wpAny_pyIter_slot ty F.slot_zip_iter (wpAny_call_entry F.slot_zip_iter ty F.entry_zip_iter ?_ (F.args_zip_iter_1 _))
  unfold Builtin.«dict_keyiterator.__iter__»
  exact wpAny_bind (wpAny_pure (wpAny_pure ⟨_, rfl, "zip", _, ty, F.slot_zip_next.lookup, h⟩))
end
/-- the pairs of two tuples, while both go on -/
def ItzN (K : PySem.W.Frag) (a b : Addr) : It :=
  ⟨fun i H => ∃ (xs ys : List V) (x y : V), SqT K H a xs ∧ SqT K H b ys ∧ xs[i]? = some x ∧ ys[i]? = some y,
   fun i H v H' => ∃ T x y, v = .ref T ∧ H T = none ∧ H' = upd H T (.tup [x, y]) ∧ (∀ xs, SqT K H a xs → xs[i]? = some x) ∧ ∀ ys, SqT K H b ys → ys[i]? = some y,
   fun i H => ∃ xs ys : List V, SqT K H a xs ∧ SqT K H b ys ∧ i ≤ xs.length ∧ i ≤ ys.length ∧ (i = xs.length ∨ i = ys.length)⟩
/-- the state of a zip of the tuples at a, b -/
def ZipSt (z TI TO i1 i2 a b : Addr) (i : Nat) (h : Heap) : Prop :=
  (∃ f0 f1, ZipOut f0 f1 ∧ ZipAt h z TI TO f0 f1) ∧ IsTupOf2 h TI (.ref i1) (.ref i2) ∧ (∃ x y, IsTupOf2 h TO x y) ∧ h.IsTupleIter i1 a i ∧ h.IsTupleIter i2 b i
theorem ZipSt.keep {z TI TO i1 i2 a b : Addr} {i : Nat} {h h' : Heap} (st : ZipSt z TI TO i1 i2 a b i h) (k : ∀ c ∈ [z, TI, TO, i1, i2], ∀ o, h.get? c = some o → h'.get? c = some o) : ZipSt z TI TO i1 i2 a b i h' := by
  obtain ⟨⟨f0, f1, ok, hz⟩, hTI, ⟨x, y, hTO⟩, h1, h2⟩ := st
  exact ⟨⟨f0, f1, ok, k z (by simp) _ hz⟩, k TI (by simp) _ hTI, ⟨x, y, k TO (by simp) _ hTO⟩, h1.at fun o q => k i1 (by simp) o q, h2.at fun o q => k i2 (by simp) o q⟩
structure ZipAp (z TI TO i1 i2 a b : Addr) : Prop where
  sep : ZipSep2 z TI TO i1 i2 [i1, a] [i2, b]
  a1 : a ≠ i1
  b2 : b ≠ i2
theorem zip_ap {N a b : Nat} (ha : a < N) (hb : b < N) : ZipAp (N + 4) (N + 2) (N + 3) N (N + 1) a b :=
  ⟨zip_sep2 (fp1 := [a]) (fp2 := [b]) (fun c hc => by rw [List.mem_singleton.mp hc]; exact ha) (fun c hc => by rw [List.mem_singleton.mp hc]; exact hb), Nat.ne_of_lt ha, Nat.ne_of_lt (Nat.lt_succ_of_lt hb)⟩
section
variable {X : Cx} {pins : List (Addr × Obj)} {σ : L2.St} {H : Hp} {s : Shared} {z TI TO i1 i2 a b : Addr} {i : Nat} {A : Around} {E : Value → Shared → Prop} {xs ys : List V}
/-- a turn, the pair tracked -/
theorem zip_turn (hh : A.handled = none) (D : ZipAp z TI TO i1 i2 a b) (I : Inv X pins σ H s) (hf : ∀ c ∈ [z, TI, TO, i1, i2], FpOk X pins H c) (st : ZipSt z TI TO i1 i2 a b i s.heap) (hx : SqT X.K H a xs) (hy : SqT X.K H b ys) {x y : V} (ex : xs[i]? = some x) (ey : ys[i]? = some y)
    {Q : Option Value → Shared → Prop} (q : ∀ T s', H T = none → Inv X pins σ (upd H T (.tup [x, y])) s' → ZipSt z TI TO i1 i2 a b (i + 1) s'.heap → (∀ c ∈ [z, TI, TO, i1, i2], (upd H T (.tup [x, y])) c = none) → (∀ c o, c ∉ [z, TI, TO, i1, i2] → s.heap.get? c = some o → s'.heap.get? c = some o) → T = s.heap.objs.size → Q (some (.ref T)) s') :
    wpAny (model X.prog X.w) A (pyNext (.ref z)) Q E s := by
  obtain ⟨⟨f0, f1, ok, hz⟩, hTI, ⟨x0, y0, hTO⟩, h1, h2⟩ := st
  obtain ⟨its, rv, p, _⟩ := I.tuple hx
  obtain ⟨its2, rv2, p2, _⟩ := I.tuple hy
  obtain ⟨u, hu, ru⟩ := rv.get ex
  obtain ⟨u2, hu2, ru2⟩ := rv2.get ey
  have zl : z < s.heap.objs.size := Heap.lt_size hz
  have l1 : i < its.toArray.size := by
    have := (List.getElem?_eq_some_iff.mp hu).1
    simpa using this
  have l2 : i < its2.toArray.size := by
    have := (List.getElem?_eq_some_iff.mp hu2).1
    simpa using this
  refine next_zip D.sep (Draws.tuple (A := A.in1) hh i1 a D.a1 its.toArray) (Draws.tuple (A := A.in1) hh i2 b D.b2 its2.toArray) hz ok hTI hTO ⟨h1, show s.heap.IsTuple a its.toArray from p⟩ ⟨h2, show s.heap.IsTuple b its2.toArray from p2⟩ l1 l2 fun v1 v2 h' tk g0 g1 b1 b2 e1 e2 ok' hz' hTO' t1 t2 hT sz k => ?_
  have ev1 : v1 = u := by
    have : its.toArray[i]? = some u := by simpa using hu
    exact Option.some.inj (e1.symm.trans this)
  have ev2 : v2 = u2 := by
    have : its2.toArray[i]? = some u2 := by simpa using hu2
    exact Option.some.inj (e2.symm.trans this)
  subst ev1 ev2
  have new : ObjOk X.prog X.w (upd H s.heap.objs.size (.tup [x, y])) h' s.heap.objs.size (.tup [x, y]) := ⟨by show 2 ≤ sizeLine; decide, [v1, v2], .cons ru (.cons ru2 .nil), ⟨_, hT, rfl, _, rfl⟩⟩
  have kk : ∀ c o, c ∉ [z, TI, TO, i1, i2] → s.heap.get? c = some o → h'.get? c = some o := fun c o hc e => k c o (fun q => hc (by simp [q])) (fun q => hc (by simp [q])) (fun q => hc (by simp [q])) (fun q => hc (by simp [q])) e
  have I1 : Inv X pins σ (upd H s.heap.objs.size (.tup [x, y])) { s with heap := h', toks := tk } := I.turnedNew (t' := tk) (ch := [z, TI, TO, i1, i2]) kk hf (Nat.le_refl _) new
  have lt : ∀ c ∈ [z, TI, TO, i1, i2], c < s.heap.objs.size := fun c hc => by
    have e' : c = z ∨ c = TI ∨ c = TO ∨ c = i1 ∨ c = i2 := by simpa using hc
    rcases e' with q | q | q | q | q
    · rw [q]; exact zl
    · rw [q]; exact Heap.lt_size hTI
    · rw [q]; exact Heap.lt_size hTO
    · rw [q]; obtain ⟨_, e1, _⟩ := h1; exact Heap.lt_size e1
    · rw [q]; obtain ⟨_, e1, _⟩ := h2; exact Heap.lt_size e1
  exact q _ _ (I.hok.fresh (Nat.le_refl _)) I1 ⟨⟨g0, g1, ok', hz'⟩, k _ _ D.sep.TIz D.sep.TITO D.sep.TIi1 D.sep.TIi2 hTI, ⟨b1, b2, hTO'⟩, t1.1, t2.1⟩
    (fun c hc => by rw [upd_ne (Nat.ne_of_lt (lt c hc))]; exact (hf c hc).1) kk rfl
theorem zip_over (hh : A.handled = none) (D : ZipAp z TI TO i1 i2 a b) (I : Inv X pins σ H s) (hf : ∀ c ∈ [z, TI, TO, i1, i2], FpOk X pins H c) (st : ZipSt z TI TO i1 i2 a b i s.heap) (hx : SqT X.K H a xs) (hy : SqT X.K H b ys) (le1 : i ≤ xs.length) (le2 : i ≤ ys.length) (he : i = xs.length ∨ i = ys.length)
    {Q : Option Value → Shared → Prop} (q : ∀ s', Inv X pins σ H s' → (∀ c o, c ∉ [z, TI, TO, i1, i2] → s.heap.get? c = some o → s'.heap.get? c = some o) → Q none s') :
    wpAny (model X.prog X.w) A (pyNext (.ref z)) Q E s := by
  obtain ⟨⟨f0, f1, ok, hz⟩, hTI, ⟨x0, y0, hTO⟩, h1, h2⟩ := st
  obtain ⟨its, rv, p, _⟩ := I.tuple hx
  obtain ⟨its2, rv2, p2, _⟩ := I.tuple hy
  have l1 := rv.length
  have l2 := rv2.length
  refine next_zip_end D.sep (Draws.tuple (A := A.in1) hh i1 a D.a1 its.toArray) (Draws.tuple (A := A.in1) hh i2 b D.b2 its2.toArray) hz ok hTI hTO ⟨h1, show s.heap.IsTuple a its.toArray from p⟩ ⟨h2, show s.heap.IsTuple b its2.toArray from p2⟩ (by simp; omega) (by simp; omega) (by simp; omega) fun h' tk k => ?_
  have kk : ∀ c o, c ∉ [z, TI, TO, i1, i2] → s.heap.get? c = some o → h'.get? c = some o := fun c o hc e => k c o (fun q => hc (by simp [q])) (fun q => hc (by simp [q])) (fun q => hc (by simp [q])) (fun q => hc (by simp [q])) e
  exact q _ (I.turnedL (t' := tk) (ch := [z, TI, TO, i1, i2]) kk hf) kk
end
theorem turn_zipN {P : Program} {w : World} {K : PySem.W.Frag} {tg : Expr} {a b z TI TO i1 i2 : Addr} (D : ZipAp z TI TO i1 i2 a b) (ht : ∀ it v, letOwnedTupleGo tg it v = pure ()) :
    Turn P w K tg (ItzN K a b) [z, TI, TO, i1, i2] z (ZipSt z TI TO i1 i2 a b) where
  mem := by simp
  obj := fun i h st c hc => by
    obtain ⟨⟨f0, f1, ok, hz⟩, hTI, ⟨x, y, hTO⟩, ⟨o1, e1, _, d1⟩, ⟨o2, e2, _, d2⟩⟩ := st
    have e' : c = z ∨ c = TI ∨ c = TO ∨ c = i1 ∨ c = i2 := by simpa using hc
    rcases e' with q | q | q | q | q
    · rw [q]; exact ⟨_, hz, fun v q => nomatch q⟩
    · rw [q]; exact ⟨_, hTI, fun v q => nomatch q⟩
    · rw [q]; exact ⟨_, hTO, fun v q => nomatch q⟩
    · rw [q]; exact ⟨o1, e1, fun v q => by rw [d1] at q; cases q⟩
    · rw [q]; exact ⟨o2, e2, fun v q => by rw [d2] at q; cases q⟩
  keep := fun i h h' st k => st.keep k
  item := by
    intro X hP hw hK hc i pins s σ H E I hf st hg
    subst hP hw hK
    obtain ⟨xs, ys, x, y, hqx, hqy, hx, hy⟩ := hg
    refine zip_turn (I.ok.hd hc) D I hf st hqx hqy hx hy fun T s' nT I' st' nf _ _ => ⟨_, rfl, ?_⟩
    rw [ht]
    exact wpAny_pure ⟨.ref T, _, I', rfl, ⟨T, x, y, rfl, nT, rfl, fun l hl => by rw [I.tuple_inj hl hqx]; exact hx, fun l hl => by rw [I.tuple_inj hl hqy]; exact hy⟩, st', nf⟩
  done := by
    intro X hP hw hK hc i pins s σ H E I hf st hg
    subst hP hw hK
    obtain ⟨xs, ys, hqx, hqy, le1, le2, he⟩ := hg
    exact zip_over (I.ok.hd hc) D I hf st hqx hqy le1 le2 he fun s' I' _ => ⟨rfl, I'⟩
  self := fun A i s Q E st h => by
    obtain ⟨⟨f0, f1, _, hz⟩, _⟩ := st
    exact iter_zip hz h
/-- for p in zip(a, b), two tuples -/
def iZipN (K : PySem.W.Frag) (ta : TA) : TI := fun σ H R => ta σ H fun vs H1 => ∃ a b xs ys, vs = [.ref a, .ref b] ∧ SqT K H1 a xs ∧ SqT K H1 b ys ∧ R (ItzN K a b) H1
section
variable {X : Cx}
/-- the zip is made -/
theorem zip_made {pins : List (Addr × Obj)} {σ : L2.St} {H : Hp} {s : Shared} {a b : Addr} {xs ys : List V} {Q : Value → Shared → Prop} {A : Around} {E : Value → Shared → Prop} (I : Inv X pins σ H s) (hx : SqT X.K H a xs) (hy : SqT X.K H b ys)
    (q : ∀ z TI TO i1 i2 s', ZipAp z TI TO i1 i2 a b → Inv X pins σ H s' → ZipSt z TI TO i1 i2 a b 0 s'.heap → (∀ c ∈ [z, TI, TO, i1, i2], FpOk X pins H c) → (∀ c o, s.heap.get? c = some o → s'.heap.get? c = some o) → Q (.ref z) s') :
    wpAny (model X.prog X.w) A (call (.type "zip") [.ref a, .ref b]) Q E s := by
  obtain ⟨its, rv, p1, _⟩ := I.tuple hx
  obtain ⟨its2, rv2, p2, _⟩ := I.tuple hy
  have al : a < s.heap.objs.size := by
    obtain ⟨o, m, _⟩ := id p1
    exact Heap.lt_size m
  have bl : b < s.heap.objs.size := by
    obtain ⟨o, m, _⟩ := id p2
    exact Heap.lt_size m
  refine zip_begins2 (begins_tuple a its.toArray) (begins_tuple b its2.toArray) (show s.heap.IsTuple a its.toArray from p1) (show s.heap.IsTuple b its2.toArray from p2) fun h' hz hTI hTO h1 h2 sz k => ?_
  refine q _ _ _ _ _ _ (zip_ap al bl) (I.kept (t' := s.toks) k) ⟨⟨_, _, .free false, hz⟩, hTI, ⟨_, _, hTO⟩, ⟨_, h1, rfl, rfl⟩, ⟨_, h2, rfl, rfl⟩⟩ (fun c hc => ?_) k
  have e' : c = s.heap.objs.size + 4 ∨ c = s.heap.objs.size + 2 ∨ c = s.heap.objs.size + 3 ∨ c = s.heap.objs.size ∨ c = s.heap.objs.size + 1 := by simpa using hc
  have hle : s.heap.objs.size ≤ c := by
    rcases e' with z | z | z | z | z
    · rw [z]; exact Nat.le_add_right _ _
    · rw [z]; exact Nat.le_add_right _ _
    · rw [z]; exact Nat.le_add_right _ _
    · rw [z]; exact Nat.le_refl _
    · rw [z]; exact Nat.le_add_right _ _
  exact I.fpOk hle (I.hok.fresh hle)
theorem pi_zipN {e e2 : Expr} {ta : TA} {p pos : Pos} {x : Str} {pt : Pos} (hg : Gl X "zip") (hm : X.mg "zip" = none) (ha : PA X [e, e2] ta)
    (hs : starEach [e, e2] X.env = (false, eval e X.env) :: starEach [e2] X.env := by rfl) (hpl : (backTo pos (starEach [e2] X.env)).any (·.1) = false := by rfl) :
    PI X (.Name x pt) (.Call (.Name "zip" p) [e, e2] [] pos) (iZipN X.K ta) := by
  refine ⟨fun pins s σ H R I h => ?_⟩
  refine Call_ (ld_blt I hg hm PyProof.Rows.boot_zip (PyProof.Rows.callWith_type1 (thn (ha.run pos pins s σ H _ I h) fun us s1 ⟨vs, H1, I1, r1, q1⟩ => ?_) hs hpl))
  obtain ⟨a, b, xs, ys, ex, hx, hy, q1⟩ := q1
  subst ex
  cases r1 with
  | cons r rr =>
    cases rr with
    | cons r' rr =>
      cases rr
      cases r
      cases r'
      refine zip_made I1 hx hy fun z TI TO i1 i2 s' D I' st hf _ => ?_
      obtain ⟨⟨f0, f1, _, hz⟩, _⟩ := id st
      exact iter_zip hz ⟨z, _, _, _, H1, rfl, I', turn_zipN D fun _ _ => rfl, st, hf, q1⟩
end
/-- a comprehension over the pairs -/
theorem zip_itN {K : PySem.W.Frag} {a b : Addr} {xs ys : List V} {n : Nat} {g : TG} {tt : TT} {te : TE} {vs : List Nat} {σ : L2.St} {H1 : Hp} {D : Addr} {Qd : Hp → Prop} (hn : n ≤ xs.length) (hn2 : n ≤ ys.length) (he : n = xs.length ∨ n = ys.length) (Pv : Nat → Hp → Prop) (h0 : Pv 0 (upd H1 D (.lst []))) (hl : ∀ i H, Pv i H → SqT K H a xs ∧ SqT K H b ys)
    (hs : ∀ i x y H T, xs[i]? = some x → ys[i]? = some y → Pv i H → H T = none → g (.ref T) (wipe σ vs) (upd H T (.tup [x, y])) fun σ2 H2 => wipe σ2 vs = wipe σ vs ∧ tt σ2 H2 fun b H3 =>
      if b = true then te σ2 H3 fun y H4 => ∃ acc, H4 D = some (.lst acc) ∧ acc.length < sizeLine ∧ Pv (i + 1) (upd H4 D (.lst (acc ++ [y]))) else Pv (i + 1) H3) (hd : ∀ H, Pv n H → Qd H) :
    ∃ W : Nat → Nat → Hp → Prop, (∃ m, W 0 m (upd H1 D (.lst []))) ∧ ∀ i m H, W i m H →
      ((ItzN K a b).stop i H ∧ Qd H) ∨ ((ItzN K a b).go i H ∧ ∃ Nx : Hp → Prop, (∀ H', Nx H' → ∃ m', m' < m ∧ W (i + 1) m' H') ∧ ∀ v H', (ItzN K a b).yld i H v H' → g v (wipe σ vs) H' fun σ2 H2 => wipe σ2 vs = wipe σ vs ∧ tt σ2 H2 fun b H3 =>
        if b = true then te σ2 H3 fun y H4 => ∃ acc, H4 D = some (.lst acc) ∧ acc.length < sizeLine ∧ Nx (upd H4 D (.lst (acc ++ [y]))) else Nx H3) := by
  refine ⟨fun i m H => m = n - i ∧ i ≤ n ∧ Pv i H, ⟨n, by simp, Nat.zero_le _, h0⟩, fun i m H ⟨em, hi, p⟩ => ?_⟩
  obtain ⟨q1, q2⟩ := hl i H p
  by_cases lt : i < n
  · refine .inr ⟨⟨xs, ys, xs[i]'(by omega), ys[i]'(by omega), q1, q2, by simp, by simp⟩, Pv (i + 1), fun H' p' => ⟨n - (i + 1), by omega, rfl, lt, p'⟩, fun v H' ⟨T, x, y, ev, nT, eH, hx, hy⟩ => ?_⟩
    rw [ev, eH]
    exact hs i x y H T (hx xs q1) (hy ys q2) p nT
  · have e : i = n := by omega
    rw [e] at p ⊢
    exact .inl ⟨⟨xs, ys, q1, q2, hn, hn2, he⟩, hd H p⟩
end Far

namespace Far
open PySem PySem.Spec PyProof.Rows L2
theorem zip_no_len : typeLookup (.type "zip") "__len__" = pure none := am_miss_of_fast (by decide +kernel)
theorem zip_no_hint : typeLookup (.type "zip") "__length_hint__" = pure none := am_miss_of_fast (by decide +kernel)
/-- the tuples at ps are the pairs of xs and ys -/
def PairsAt (H : Hp) (ps : List Addr) (xs ys : List V) : Prop := ∀ (i : Nat) (p : Addr), ps[i]? = some p → ∃ x y, xs[i]? = some x ∧ ys[i]? = some y ∧ H p = some (.tup [x, y])
theorem PairsAt.keep {H H' : Hp} {ps : List Addr} {xs ys : List V} (h : PairsAt H ps xs ys) (k : ∀ p zs, H p = some (.tup zs) → H' p = some (.tup zs)) : PairsAt H' ps xs ys := fun i p e => by
  obtain ⟨x, y, a, b, c⟩ := h i p e
  exact ⟨x, y, a, b, k p _ c⟩
theorem same_seqT {K : PySem.W.Frag} {H H' : Hp} {a : Addr} {xs : List V} (S : Same H H') (h : SqT K H a xs) : SqT K H' a xs := by
  rcases h with (h | ⟨o, h⟩) | h
  · exact .inl (.inl (S _ _ h))
  · exact .inl (.inr ⟨o, S _ _ h⟩)
  · exact .inr h
section
variable {X : Cx} {pins : List (Addr × Obj)} {σ : L2.St} {H0 H : Hp} {s : Shared} {z TI TO i1 i2 a b q : Addr} {A : Around} {E : Value → Shared → Prop} {xs ys : List V} {n : Nat} {R : Result → Shared → Prop}
theorem hint_zip {f0 f1 : Value} (hz : ZipAt s.heap z TI TO f0 f1) {Q : Bool → Shared → Prop} (h : Q true s) : wpAny (model X.prog X.w) A (Builtin.List.listLengthHint (.ref z)) Q E s := by
  have ty : s.TypeIs (.ref z) "zip" := ⟨_, hz, rfl⟩
  unfold Builtin.List.listLengthHint
  refine wpAny_bind (wpAny_specialOf ty zip_no_len ?_)
  refine PySem.W.KFB.if_not rfl ?_
  refine PySem.W.KFB.if_not rfl ?_
  refine wpAny_bind (wpAny_specialOf ty zip_no_hint ?_)
  exact wpAny_pure h
/-- the list at q filled with the pairs -/
theorem fill_zip (hh : A.handled = none) (D : ZipAp z TI TO i1 i2 a b) (hn : n ≤ xs.length) (hn2 : n ≤ ys.length) (he : n = xs.length ∨ n = ys.length) (hz : n < sizeLine) (qf : q ∉ [z, TI, TO, i1, i2]) (qn : H0 q = none)
    (hx : SqT X.K H0 a xs) (hy : SqT X.K H0 b ys)
    (hR : ∀ H' s' ps, Inv X pins σ H' s' → Same H0 H' → H' q = some (.lst (ps.map V.ref)) → ps.length = n → PairsAt H' ps xs ys → R (.ok (.ret .none)) s') :
    ∀ (k i : Nat) (ps : List Addr) (H : Hp) (s : Shared), n - i = k → i ≤ n → Inv X pins σ H s → (∀ c ∈ [z, TI, TO, i1, i2], FpOk X pins H c) → ZipSt z TI TO i1 i2 a b i s.heap → Same H0 H → H q = some (.lst (ps.map V.ref)) → ps.length = i → PairsAt H ps xs ys →
      codeAny (model X.prog X.w) A (.builtin "list.extend.loop" ⟨[.ref q, .ref z, .none], []⟩) R s := by
  intro k
  induction k with
  | zero =>
    intro i ps H s ek hi I hf st S hq hl hp
    have ei : i = n := by omega
    refine codeAny_builtin PySem.F.entry_extend_loop ?_
    rw [Around.under_plainId PySem.F.plain_extend_loop _]
    show wpAny _ A.in1 (pyNext (.ref z) >>= _) _ _ s
    refine wpAny_bind (zip_over (A := A.in1) hh D I hf st (same_seqT S hx) (same_seqT S hy) (by omega) (by omega) (by omega) fun s' I' _ => ?_)
    exact wpAny_pure (hR H s' ps I' S hq (by omega) hp)
  | succ k ih =>
    intro i ps H s ek hi I hf st S hq hl hp
    have lt : i < n := by omega
    refine codeAny_builtin PySem.F.entry_extend_loop ?_
    rw [Around.under_plainId PySem.F.plain_extend_loop _]
    show wpAny _ A.in1 (pyNext (.ref z) >>= _) _ _ s
    refine wpAny_bind (zip_turn (A := A.in1) hh D I hf st (same_seqT S hx) (same_seqT S hy) (x := xs[i]'(by omega)) (y := ys[i]'(by omega)) (by simp) (by simp) fun T s' nT I' st' nf kk eT => ?_)
    show wpAny _ A.in1 (updateSeq q (·.push (.ref T)) >>= _) _ _ _
    have qT : q ≠ T := ne_of_none hq nT
    have hq' : (upd H T (.tup [xs[i]'(by omega), ys[i]'(by omega)])) q = some (.lst (ps.map V.ref)) := by
      rw [upd_ne qT]
      exact hq
    obtain ⟨sz, its, m, rv, hlen, e⟩ := I'.lstM hq'
    rw [List.length_map] at hlen
    refine wpAny_bind (wpAny_updateSeq e rfl (wpAny_pure ⟨plainId_quiet PySem.F.plain_extend_loop _, ?_⟩) (by rw [List.size_toArray]; omega) (by show (its.toArray.push (Value.ref T)).size ≤ sizeLine + 1; rw [Array.size_push, List.size_toArray]; omega))
    have I2 := I'.lset (its' := its ++ [.ref T]) (ys := (ps ++ [T]).map V.ref) (f := (·.push (Value.ref T))) (t' := s'.toks) hq' e (by simp) (by rw [List.map_append]; exact rv.append (.cons rfl .nil)) (by rw [List.length_map, List.length_append, List.length_singleton]; omega)
    refine ih (i + 1) (ps ++ [T]) _ _ (by omega) (by omega) I2 (fun c hc => ?_) (st'.keep fun c hc o w => ?_) ?_ upd_same (by rw [List.length_append, List.length_singleton]; omega) ?_
    · have cq : c ≠ q := fun w => qf (w ▸ hc)
      exact ⟨by rw [upd_ne cq]; exact nf c hc, (hf c hc).2⟩
    · have cq : c ≠ q := fun w => qf (w ▸ hc)
      exact (Heap.get?_update_other _ _ (Ne.symm cq)).trans w
    · intro c o w
      have cq : c ≠ q := fun e => by rw [e, qn] at w; cases w
      rw [upd_ne cq, upd_ne (ne_of_none (S c o w) nT)]
      exact S c o w
    · intro j p ej
      have tq : T ≠ q := Ne.symm qT
      by_cases hj : j < ps.length
      · rw [List.getElem?_append_left hj] at ej
        obtain ⟨x, y, f1, f2, f3⟩ := hp j p ej
        refine ⟨x, y, f1, f2, ?_⟩
        rw [upd_ne (ne_of f3 hq (fun z => nomatch z)), upd_ne (ne_of_none f3 nT)]
        exact f3
      · rw [List.getElem?_append_right (by omega)] at ej
        have ej0 : j = i := by
          have := (List.getElem?_eq_some_iff.mp ej).1
          simp at this
          omega
        subst ej0
        rw [hl] at ej
        simp at ej
        subst ej
        exact ⟨xs[j]'(by omega), ys[j]'(by omega), by simp, by simp, by rw [upd_ne tq]; exact upd_same⟩
/-- list(zip(a, b)), two tuples -/
theorem list_zip {Q : Value → Shared → Prop} {A : Around} (hh : A.handled = none) (D : ZipAp z TI TO i1 i2 a b) (hn : n ≤ xs.length) (hn2 : n ≤ ys.length) (he : n = xs.length ∨ n = ys.length) (hz : n < sizeLine)
    (I : Inv X pins σ H s) (hf : ∀ c ∈ [z, TI, TO, i1, i2], FpOk X pins H c) (st : ZipSt z TI TO i1 i2 a b 0 s.heap) (hx : SqT X.K H a xs) (hy : SqT X.K H b ys)
    (q : ∀ q H' s' ps, H q = none → Inv X pins σ H' s' → Same H H' → H' q = some (.lst (ps.map V.ref)) → ps.length = n → PairsAt H' ps xs ys → Q (.ref q) s') : wpAny (model X.prog X.w) A (call (.type "list") [.ref z]) Q E s := by
  refine callType_codes (Q₁ := fun obj s₁ => obj = .ref s.heap.objs.size ∧ s₁ = { s with heap := s.heap.push { cls := .type "list", data := .seq #[] } }) PySem.F.called_list (PySem.F.typeCall_list_1 _) PySem.F.entry_list_init
    (code_list_new _ ⟨rfl, rfl⟩) fun obj s₁ h₁ => ?_
  obtain ⟨rfl, rfl⟩ := h₁
  have hS : (s.heap.push { cls := .type "list", data := .seq #[] }).get? s.heap.objs.size = some { cls := .type "list", data := .seq #[] } := Heap.get?_push_size _ rfl
  refine ⟨⟨_, hS, rfl⟩, PySem.F.args_list_init_2 _ _, ?_⟩
  have fr : H s.heap.objs.size = none := I.hok.fresh (Nat.le_refl _)
  have lt : ∀ c ∈ [z, TI, TO, i1, i2], c < s.heap.objs.size := fun c hc => by
    obtain ⟨o, ho, _⟩ := (turn_zipN (P := X.prog) (w := X.w) (K := X.K) (tg := .Name "p" default) D fun _ _ => rfl).obj 0 _ st c hc
    exact Heap.lt_size ho
  have qf : s.heap.objs.size ∉ [z, TI, TO, i1, i2] := fun hm => absurd (lt _ hm) (Nat.lt_irrefl _)
  generalize hq : s.heap.objs.size = qa at *
  have I1 : Inv X pins σ (upd H qa (.lst [])) { s with heap := s.heap.push { cls := .type "list", data := .seq #[] } } := by
    rw [← hq]
    exact I.lnew (its := []) (t' := s.toks) .nil (Nat.zero_le _)
  show wpAny _ _ (do let old ← Builtin.List.listItems (.ref qa); Builtin.List.listUpdate (.ref qa) (fun _ => #[]); letGo old.toList.reverse; Builtin.List.listExtendWith (.ref qa) (.ref z) .none) _ _ _
  refine wpAny_bind ?_
  unfold Builtin.List.listItems
  refine wpAny_bind (wpAny_seqItems hS rfl (wpAny_pure ?_))
  show wpAny _ _ (updateSeq qa (fun _ => #[]) >>= fun _ => letGo (#[] : Array Value).toList.reverse >>= fun _ => Builtin.List.listExtendWith (.ref qa) (.ref z) .none) _ _ _
  refine wpAny_bind (wpAny_updateSeq hS rfl ?_)
  have I2 := I1.lset (f := fun _ => #[]) (its := []) (its' := []) (ys := []) (t' := s.toks) upd_same hS rfl .nil (Nat.zero_le _)
  rw [upd_upd] at I2
  refine wpAny_bind (wpAny_letGo ?_)
  have st2 := st.keep (h' := s.heap.push { cls := .type "list", data := .seq #[] }) fun c _ o w => Heap.get?_push_of_some _ w
  have st3 := st2.keep (h' := (s.heap.push { cls := .type "list", data := .seq #[] }).update qa (Obj.mapSeq fun _ => #[])) fun c hc o w => (Heap.get?_update_other _ _ (fun e : qa = c => qf (e ▸ hc))).trans w
  have hz3 := st3
  obtain ⟨⟨f0, f1, ok, hz4⟩, _⟩ := hz3
  unfold Builtin.List.listExtendWith
  have ty : Shared.TypeIs { s with heap := (s.heap.push { cls := .type "list", data := .seq #[] }).update qa (Obj.mapSeq fun _ => #[]) } (.ref z) "zip" := ⟨_, hz4, rfl⟩
  refine wpAny_bind (wpAny_typeOf ty ?_)
  have qz : qa ≠ z := fun e => qf (by simp [e])
  have h1 : Builtin.List.listSameRef (.ref qa) (.ref z) = false := by simp [Builtin.List.listSameRef, qz]
  have h2 : (Value.type "zip" == Value.type "list") = false := by decide
  have h3 : (Value.type "zip" == Value.type "tuple") = false := by decide
  simp only [h1, h2, h3, Bool.or_false, Bool.false_eq_true, if_false]
  refine wpAny_bind (iter_zip hz4 ?_)
  refine wpAny_bind (wpAny_holding (hint_zip hz4 ?_))
  obtain ⟨z5, its5, k5, r5, hl5, e5⟩ := I2.lstM upd_same
  cases r5
  have S0 : Same H (upd H qa (.lst [])) := same_new (Same.refl H) fr
  have nf2 : ∀ c ∈ [z, TI, TO, i1, i2], FpOk X pins (upd H qa (.lst [])) c := fun c hc => ⟨by rw [upd_ne (fun e : c = qa => qf (e ▸ hc))]; exact (hf c hc).1, (hf c hc).2⟩
  have fin : ∀ s', Inv X pins σ (upd H qa (.lst [])) s' → ZipSt z TI TO i1 i2 a b 0 s'.heap → codeAny (model X.prog X.w) A.in1 (.builtin "list.extend.loop" ⟨[.ref qa, .ref z, .none], []⟩) (wants (fun r s₂ => r = .none ∧ Q (.ref qa) s₂) E) s' := fun s' J st' =>
    fill_zip (A := A.in1) (H0 := H) (R := wants (fun r s₂ => r = .none ∧ Q (.ref qa) s₂) E) hh D hn hn2 he hz qf fr hx hy (fun H' s2 ps J' S' hq' hl' hp' => ⟨rfl, q qa H' s2 ps fr J' S' hq' hl' hp'⟩) n 0 [] _ s' rfl (Nat.zero_le _) J nf2 st' S0 upd_same rfl (fun i p e => by simp at e)
  refine wpAny_ite_split (fun _ => ?_) (fun _ => wpAny_pure ⟨plainId_quiet PySem.F.plain_extend_loop _, fin _ I2 st3⟩)
  refine wpAny_bind (wpAny_rule ?_)
  refine wpAny_bind ?_
  show wpAny _ _ (updateSeq qa (·.push .none) >>= fun _ => updateSeq qa (·.pop)) _ _ _
  refine wpAny_bind (wpAny_updateSeq e5 rfl ?_)
  have I3 := I2.lset (f := (·.push Value.none)) (its' := [Value.none]) (ys := [.non]) (t' := s.toks) upd_same e5 (by simp) (.cons rfl .nil) (by rw [List.length_singleton, sizeLine_eq]; decide)
  obtain ⟨z6, its6, k6, r6, hl6, e6⟩ := I3.lstM upd_same
  obtain ⟨u6, rfl, ru6⟩ := r6.one
  refine wpAny_updateSeq e6 rfl ?_ (by show 1 ≤ sizeLine; rw [sizeLine_eq]; decide) (by show 0 ≤ sizeLine + 1; exact Nat.zero_le _)
  have I4 := I3.lset (f := (·.pop)) (its := [u6]) (its' := []) (ys := []) (t' := s.toks) upd_same e6 (by rfl) .nil (Nat.zero_le _)
  rw [upd_upd, upd_upd] at I4
  have oth : ∀ (h : Heap) (f : Obj → Obj) (c : Addr), c ∈ [z, TI, TO, i1, i2] → ∀ o, h.get? c = some o → (h.update qa f).get? c = some o := fun h f c hc o w => (Heap.get?_update_other _ _ (fun e : qa = c => qf (e ▸ hc))).trans w
  exact wpAny_pure ⟨plainId_quiet PySem.F.plain_extend_loop _, fin _ I4 ((st3.keep (oth _ _)).keep (oth _ _))⟩
end
def tListZip (K : PySem.W.Frag) (ta : TA) : TE := fun σ H Q => ta σ H fun vs H1 => ∃ a b xs ys n, vs = [.ref a, .ref b] ∧ SqT K H1 a xs ∧ SqT K H1 b ys ∧ n ≤ xs.length ∧ n ≤ ys.length ∧ (n = xs.length ∨ n = ys.length) ∧ n < sizeLine ∧
  ∀ q H' ps, H1 q = none → Same H1 H' → H' q = some (.lst (ps.map V.ref)) → ps.length = n → PairsAt H' ps xs ys → Q (.ref q) H'
theorem pe_listZip {X : Cx} {e e2 : Expr} {ta : TA} {p p2 q pos : Pos} (hg : Gl X "list") (hm : X.mg "list" = none) (hg2 : Gl X "zip") (hm2 : X.mg "zip" = none) (ha : PA X [e, e2] ta) (hc : X.calm = true := by rfl)
    (hs : starEach [e, e2] X.env = (false, eval e X.env) :: starEach [e2] X.env := by rfl) (hpl : (backTo q (starEach [e2] X.env)).any (·.1) = false := by rfl)
    (hso : starEach [.Call (.Name "zip" p2) [e, e2] [] q] X.env = (false, eval (.Call (.Name "zip" p2) [e, e2] [] q) X.env) :: starEach [] X.env := by rfl) :
    PE X (.Call (.Name "list" p) [.Call (.Name "zip" p2) [e, e2] [] q] [] pos) (tListZip X.K ta) := by
  refine ⟨fun pins s σ H Q I h => ?_⟩
  refine Call_ (ld_blt I hg hm bt_list ?_)
  refine PyProof.Rows.callWith_type1 (PyProof.Rows.args_cons ?_ hso) hso rfl
  refine Call_ (ld_blt I hg2 hm2 PyProof.Rows.boot_zip (PyProof.Rows.callWith_type1 (thn (ha.run q pins s σ H _ I h) fun us s1 ⟨vs, H1, I1, r1, q1⟩ => ?_) hs hpl))
  obtain ⟨a, b, xs, ys, n, ex, hx, hy, hn, hn2, he, hz, q1⟩ := q1
  subst ex
  cases r1 with
  | cons r rr =>
    cases rr with
    | cons r' rr =>
      cases rr
      cases r
      cases r'
      refine zip_made I1 hx hy fun z TI TO i1 i2 s' D I' st hf _ => ?_
      refine PyProof.Rows.args_nil ?_
      exact list_zip (I'.ok.hd hc) D hn hn2 he hz I' hf st hx hy fun q H' s2 ps nq J S hq hl hp => ⟨.ref q, H', J, rfl, q1 q H' ps nq S hq hl hp⟩
end Far

namespace Far
open PySem PySem.Spec PyProof.Rows L2
section
variable {prog : Program} {w : World} {z TI TO i1 i2 : Addr} {fp1 fp2 : List Addr} {n1 n2 : Nat} {P1 P2 : Nat → Value → Prop} {St1 St2 : Nat → Heap → Prop}
/-- a zip over any two, as it goes -/
def ZipOn (z TI TO i1 i2 : Addr) (St1 St2 : Nat → Heap → Prop) (i : Nat) (h : Heap) : Prop :=
  (∃ f0 f1, ZipOut f0 f1 ∧ ZipAt h z TI TO f0 f1) ∧ IsTupOf2 h TI (.ref i1) (.ref i2) ∧ (∃ x y, IsTupOf2 h TO x y) ∧ St1 i h ∧ St2 i h
/-- zip(a, b) as what dict() is given -/
theorem zipArg (A0 : Around) (hA0 : A0.handled = none) (S : ZipSep2 z TI TO i1 i2 fp1 fp2) (D1 : ∀ A : Around, A.handled = none → Draws prog w A i1 fp1 n1 P1 St1) (D2 : ∀ A : Around, A.handled = none → Draws prog w A i2 fp2 n2 P2 St2)
    (t1 : ∀ i h, St1 i h → ∀ c ∈ fp1, ∃ o, h.get? c = some o) (t2 : ∀ i h, St2 i h → ∀ c ∈ fp2, ∃ o, h.get? c = some o) :
    PairArg prog w "zip" z (z :: TI :: TO :: (fp1 ++ fp2)) [z, TO, i1, i2] (min n1 n2) (fun i k v => P1 i k ∧ P2 i v) (ZipOn z TI TO i1 i2 St1 St2 0) where
  type := fun s ok => by
    obtain ⟨⟨f0, f1, _, hz⟩, _⟩ := ok
    exact ⟨_, hz, rfl⟩
  notDict := by decide
  keep := fun h h' ok k => by
    obtain ⟨⟨f0, f1, ok, hz⟩, hTI, ⟨x, y, hTO⟩, st1, st2⟩ := ok
    exact ⟨⟨f0, f1, ok, k _ _ hz⟩, k _ _ hTI, ⟨x, y, k _ _ hTO⟩, (D1 A0 hA0).frame _ _ _ st1 fun b _ o e => k b o e, (D2 A0 hA0).frame _ _ _ st2 fun b _ o e => k b o e⟩
  there := fun h ok c hc => by
    obtain ⟨⟨f0, f1, _, hz⟩, hTI, ⟨x, y, hTO⟩, st1, st2⟩ := ok
    rcases List.mem_cons.mp hc with q | hc
    · exact ⟨_, q ▸ hz⟩
    rcases List.mem_cons.mp hc with q | hc
    · exact ⟨_, q ▸ hTI⟩
    rcases List.mem_cons.mp hc with q | hc
    · exact ⟨_, q ▸ hTO⟩
    rcases List.mem_append.mp hc with q | q
    · exact t1 _ _ st1 c q
    · exact t2 _ _ st2 c q
  sub := fun c hc => by
    have hc' : c = z ∨ c = TO ∨ c = i1 ∨ c = i2 := by simpa using hc
    have m1 := S.mem1
    have m2 := S.mem2
    rcases hc' with q | q | q | q <;> rw [q]
    · exact List.mem_cons_self ..
    · exact List.mem_cons_of_mem _ (List.mem_cons_of_mem _ (List.mem_cons_self ..))
    · exact List.mem_cons_of_mem _ (List.mem_cons_of_mem _ (List.mem_cons_of_mem _ (List.mem_append_left _ m1)))
    · exact List.mem_cons_of_mem _ (List.mem_cons_of_mem _ (List.mem_cons_of_mem _ (List.mem_append_right _ m2)))
  noKeys := fun A s Q E hA ok h => by
    obtain ⟨⟨f0, f1, _, hz⟩, _⟩ := ok
    exact getAttrOr_miss_zip hz rfl rfl rfl zip_no_keys (by decide +kernel) hA h
  iter := fun A s d Q E hA ok dl df h => by
    have ok0 := ok
    obtain ⟨⟨f0, f1, _, hz⟩, _⟩ := ok0
    have dz : d ≠ z := fun e => df (by rw [e]; exact List.mem_cons_self ..)
    have dTI : d ≠ TI := fun e => df (by rw [e]; exact List.mem_cons_of_mem _ (List.mem_cons_self ..))
    have dTO : d ≠ TO := fun e => df (by rw [e]; exact List.mem_cons_of_mem _ (List.mem_cons_of_mem _ (List.mem_cons_self ..)))
    have d1 : ∀ c ∈ fp1, c ≠ d := fun c hc e => df (by rw [← e]; exact List.mem_cons_of_mem _ (List.mem_cons_of_mem _ (List.mem_cons_of_mem _ (List.mem_append_left _ hc))))
    have d2 : ∀ c ∈ fp2, c ≠ d := fun c hc e => df (by rw [← e]; exact List.mem_cons_of_mem _ (List.mem_cons_of_mem _ (List.mem_cons_of_mem _ (List.mem_append_right _ hc))))
    refine iter_zip hz (h z [z, TO, i1, i2] (ZipOn z TI TO i1 i2 St1 St2) s.heap s.toks ?_ ok (fun _ _ e => e) fun c hc => .inl hc)
    exact {
      off := fun hm => by
        have hc' : d = z ∨ d = TO ∨ d = i1 ∨ d = i2 := by simpa using hm
        rcases hc' with q | q | q | q
        · exact dz q
        · exact dTO q
        · exact d1 _ S.mem1 q.symm
        · exact d2 _ S.mem2 q.symm
      frame := fun i h1 h2 st k => by
        obtain ⟨⟨f0, f1, ok, hz⟩, hTI, ⟨x, y, hTO⟩, st1, st2⟩ := st
        exact ⟨⟨f0, f1, ok, k _ _ (Ne.symm dz) hz⟩, k _ _ (Ne.symm dTI) hTI, ⟨x, y, k _ _ (Ne.symm dTO) hTO⟩, (D1 A hA).frame _ _ _ st1 fun b hb o e => k b o (d1 b hb) e, (D2 A hA).frame _ _ _ st2 fun b hb o e => k b o (d2 b hb) e⟩
      item := fun i s1 Q1 E1 hi st _ hQ => by
        obtain ⟨⟨f0, f1, ok, hz⟩, hTI, ⟨x, y, hTO⟩, st1, st2⟩ := st
        refine next_zip S (D1 A.in1 hA) (D2 A.in1 hA) hz ok hTI hTO st1 st2 (by omega) (by omega) fun x1 x2 h' tk g0 g1 b1 b2 p1 p2 ok' hz' hTO' u1 u2 hT _ k => ?_
        exact hQ _ x1 x2 h' tk ⟨p1, p2⟩ (.inl ⟨_, hT, rfl, _, rfl⟩) ⟨⟨g0, g1, ok', hz'⟩, k _ _ S.TIz S.TITO S.TIi1 S.TIi2 hTI, ⟨b1, b2, hTO'⟩, u1, u2⟩
          fun c o hc e => k c o (fun q => hc (by simp [q])) (fun q => hc (by simp [q])) (fun q => hc (by simp [q])) (fun q => hc (by simp [q])) e
      done := fun s1 Q1 E1 st hQ => by
        obtain ⟨⟨f0, f1, ok, hz⟩, hTI, ⟨x, y, hTO⟩, st1, st2⟩ := st
        exact next_zip_end S (D1 A.in1 hA) (D2 A.in1 hA) hz ok hTI hTO st1 st2 (by omega) (by omega) (by omega) fun h' tk k => hQ h' tk fun c o hc e =>
          k c o (fun q => hc (by simp [q])) (fun q => hc (by simp [q])) (fun q => hc (by simp [q])) (fun q => hc (by simp [q])) e }
end
section
variable {X : Cx}
theorem keys_of {P : Program} {w : World} : ∀ {kvs : List (Key × V)} {us vs : List Value}, Vals (kvs.map fun k => kV k.1) us → Vals (kvs.map (·.2)) vs → ∃ prs : List (Key × Value), KV kvs prs ∧ prs.length = kvs.length ∧ ∀ (i : Nat) (u v : Value), us[i]? = some u → vs[i]? = some v → ∃ k, prs[i]? = some (k, v) ∧ (mixKind P w).is k u = true
  | [], _, _, .nil, .nil => ⟨[], .nil, rfl, fun i u v e _ => by simp at e⟩
  | kv :: r, u :: us, v :: vs, .cons h1 t1, .cons h2 t2 => by
    obtain ⟨prs, a, b, c⟩ := keys_of (P := P) (w := w) (kvs := r) t1 t2
    refine ⟨(kv.1, v) :: prs, .cons ⟨rfl, h2⟩ a, by rw [List.length_cons, List.length_cons, b], fun i u' v' e1 e2 => ?_⟩
    cases i with
    | zero =>
      obtain rfl : u = u' := Option.some.inj e1
      obtain rfl : v = v' := Option.some.inj e2
      exact ⟨kv.1, rfl, kV_is (P := P) (w := w) h1⟩
    | succ i =>
      obtain ⟨k, f1, f2⟩ := c i u' v' (by simpa using e1) (by simpa using e2)
      exact ⟨k, by simpa using f1, f2⟩
/-- dict(zip(a, b)), a tuple and a list of one length -/
def tDictZip (K : PySem.W.Frag) (ta : TA) : TE := fun σ H Q => ta σ H fun vs H1 => ∃ (a b : Addr) (kvs : List (Key × V)), vs = [.ref a, .ref b] ∧ SqT K H1 a (kvs.map fun k => kV k.1) ∧ SqL K H1 b (kvs.map (·.2)) ∧ ∀ q, H1 q = none → Q (.ref q) (upd H1 q (.dK (mergeK [] kvs)))
theorem pe_dictZip {e e2 : Expr} {ta : TA} {p p2 q pos : Pos} (hg : Gl X "dict") (hm : X.mg "dict" = none) (bt : bootBuiltins "dict" = some (.type "dict")) (hg2 : Gl X "zip") (hm2 : X.mg "zip" = none) (ha : PA X [e, e2] ta) (hc : X.calm = true := by rfl)
    (hs : starEach [e, e2] X.env = (false, eval e X.env) :: starEach [e2] X.env := by rfl) (hpl : (backTo q (starEach [e2] X.env)).any (·.1) = false := by rfl)
    (hso : starEach [.Call (.Name "zip" p2) [e, e2] [] q] X.env = (false, eval (.Call (.Name "zip" p2) [e, e2] [] q) X.env) :: starEach [] X.env := by rfl) :
    PE X (.Call (.Name "dict" p) [.Call (.Name "zip" p2) [e, e2] [] q] [] pos) (tDictZip X.K ta) := by
  refine ⟨fun pins s σ H Q I h => ?_⟩
  refine Call_ (ld_blt I hg hm bt ?_)
  refine PyProof.Rows.callWith_type1 (PyProof.Rows.args_cons ?_ hso) hso rfl
  refine Call_ (ld_blt I hg2 hm2 PyProof.Rows.boot_zip (PyProof.Rows.callWith_type1 (thn (ha.run q pins s σ H _ I h) fun us s1 ⟨vs, H1, I1, r1, q1⟩ => ?_) hs hpl))
  obtain ⟨a, b, kvs, ex, hx, hy, q1⟩ := q1
  subst ex
  cases r1 with
  | cons r rr =>
    cases rr with
    | cons r' rr =>
      cases rr
      cases r
      cases r'
      obtain ⟨its, rv, p1, _⟩ := I1.tuple hx
      obtain ⟨its2, rv2, p2', hz2⟩ := I1.list hy
      have al : a < s1.heap.objs.size := by
        obtain ⟨o, m, _⟩ := id p1
        exact Heap.lt_size m
      have bl : b < s1.heap.objs.size := p2'.lt
      have l1 := rv.length
      have l2 := rv2.length
      rw [List.length_map] at l1 l2
      obtain ⟨prs, rel, pl, pk⟩ := keys_of (P := X.prog) (w := X.w) rv rv2
      refine zip_begins2 (begins_tuple a its.toArray) (begins_list b its2.toArray) (show s1.heap.IsTuple a its.toArray from p1) p2'.isList fun h' hz hTI hTO h1 h2 sz k => ?_
      refine PyProof.Rows.args_nil ?_
      have I2 : Inv X pins σ H1 { s1 with heap := h' } := I1.kept (t' := s1.toks) k
      have S := zip_sep2 (N := s1.heap.objs.size) (fp1 := [a]) (fp2 := [b]) (fun c hc => by rw [List.mem_singleton.mp hc]; exact al) (fun c hc => by rw [List.mem_singleton.mp hc]; exact bl)
      have P := zipArg (prog := X.prog) (w := X.w) X.A (I2.ok.hd hc) S (n1 := its.toArray.size) (n2 := its2.toArray.size) (fun A hA => Draws.tuple (A := A) hA s1.heap.objs.size a (Nat.ne_of_lt al) its.toArray) (fun A hA => Draws.list (A := A) hA (s1.heap.objs.size + 1) b (Nat.ne_of_lt (Nat.lt_succ_of_lt bl)) its2.toArray)
        (fun i h st c hc => by
          rcases List.mem_cons.mp hc with q | q
          · obtain ⟨o, m, _⟩ := st.1
            exact ⟨o, q ▸ m⟩
          · obtain ⟨o, m, _⟩ := st.2
            exact ⟨o, (List.mem_singleton.mp q) ▸ m⟩)
        (fun i h st c hc => by
          rcases List.mem_cons.mp hc with q | q
          · obtain ⟨o, m, _⟩ := st.1
            exact ⟨o, q ▸ m⟩
          · obtain ⟨o, m, _⟩ := st.2
            exact ⟨o, (List.mem_singleton.mp q) ▸ m⟩)
      have z1 : its.toArray.size = kvs.length := by simp; omega
      have z2 : its2.toArray.size = kvs.length := by simp; omega
      have ff : ∀ c ∈ [s1.heap.objs.size + 4, s1.heap.objs.size + 3, s1.heap.objs.size, s1.heap.objs.size + 1], FpOk X pins H1 c := fun c hc => by
        have e' : c = s1.heap.objs.size + 4 ∨ c = s1.heap.objs.size + 3 ∨ c = s1.heap.objs.size ∨ c = s1.heap.objs.size + 1 := by simpa using hc
        have hle : s1.heap.objs.size ≤ c := by
          rcases e' with z | z | z | z
          · rw [z]; exact Nat.le_add_right _ _
          · rw [z]; exact Nat.le_add_right _ _
          · rw [z]; exact Nat.le_refl _
          · rw [z]; exact Nat.le_add_right _ _
        exact I1.fpOk hle (I1.hok.fresh hle)
      refine PySem.call_dict_pairs (s := { s1 with heap := h' }) (knd := mixKind X.prog X.w) (kvs := prs) P (I2.ok.hd hc) ⟨⟨_, _, .free false, hz⟩, hTI, ⟨_, _, hTO⟩, ⟨⟨_, h1, rfl, rfl⟩, (show s1.heap.IsTuple a its.toArray from p1).at fun o e => k _ o e⟩, ⟨⟨_, h2, rfl, rfl⟩, p2'.isList.at fun o e => k _ o e⟩⟩
        ⟨by rw [z1, z2, Nat.min_self]; exact pl, fun i key v e => pk i key v (by simpa using e.1) (by simpa using e.2)⟩ (by rw [z1, z2, Nat.min_self, ← List.length_map (f := fun x : Key × V => x.2)]; exact hz2) fun h3 tk hd kk => ?_
      have nm : (h'.objs.size == sysModules) = false := beq_eq_false_iff_ne.mpr (Nat.ne_of_gt I2.big)
      have hlen : (mergeK [] kvs).length ≤ sizeLine := by
        refine Nat.le_trans (length_mergeK kvs []) ?_
        rw [List.length_nil, Nat.zero_add, ← List.length_map (f := fun x : Key × V => x.2)]
        exact hz2
      have nH : H1 h'.objs.size = none := I2.hok.fresh (Nat.le_refl _)
      exact ⟨.ref h'.objs.size, upd H1 h'.objs.size (.dK (mergeK [] kvs)), I2.turnedNew (t' := tk) (ch := [s1.heap.objs.size + 4, s1.heap.objs.size + 3, s1.heap.objs.size, s1.heap.objs.size + 1]) (fun c o hc e => kk c o hc e) ff (Nat.le_refl _)
        (show ObjOk X.prog X.w _ _ _ (.dK (mergeK [] kvs)) from ⟨hlen, nm, PySem.merged [] prs, KV.merge rel .nil, hd⟩), rfl, q1 _ nH⟩
end
end Far

namespace Far
open PySem PySem.Spec PyProof.Rows L2
open C8 (pss_cut tCut)
open SX (S)
theorem bt_dict : bootBuiltins ("dict" : Str) = some (.type "dict") := by decide +kernel
def dkm (fs : List Nm) (f : Nm → V) : List (Key × V) := fs.map fun l => (Sum.inr (S l), f l)
theorem dkm_get {f : Nm → V} {x : Nm} : ∀ {fs : List Nm}, x ∈ fs → valV (dkm fs f) (Sum.inr (S x)) = some (f x)
  | [], h => by simp at h
  | a :: r, h => by
    show valV ((Sum.inr (S a), f a) :: dkm r f) _ = _
    by_cases e : a = x
    · subst e
      exact valV_pos rfl
    · rw [valV_neg (fun z => e (SX.S_inj (Sum.inr.inj z)))]
      refine dkm_get ?_
      rcases List.mem_cons.mp h with z | z
      · exact absurd z.symm e
      · exact z
theorem dkm_no {f : Nm → V} {x : Nm} : ∀ {fs : List Nm}, x ∉ fs → valV (dkm fs f) (Sum.inr (S x)) = none
  | [], _ => rfl
  | a :: r, h => by
    show valV ((Sum.inr (S a), f a) :: dkm r f) _ = _
    rw [valV_neg (fun z => h (List.mem_cons.mpr (.inl (SX.S_inj (Sum.inr.inj z)).symm)))]
    exact dkm_no fun z => h (List.mem_cons.mpr (.inr z))
theorem fn_of : ∀ {pl ls : List Nm}, pl.Nodup → ∃ c : Nm → Nm, ∀ (i : Nat) (l m : Nm), pl[i]? = some l → ls[i]? = some m → c l = m
  | [], _, _ => ⟨id, fun i l m e => by simp at e⟩
  | a :: r, [], _ => ⟨id, fun i l m _ e => by simp at e⟩
  | a :: r, b :: t, h => by
    obtain ⟨h1, h2⟩ := List.nodup_cons.mp h
    obtain ⟨c, hc⟩ := fn_of (pl := r) (ls := t) h2
    refine ⟨fun l => if l = a then b else c l, fun i l m e1 e2 => ?_⟩
    cases i with
    | zero =>
      have e1 : a = l := Option.some.inj e1
      have e2 : b = m := Option.some.inj e2
      rw [← e1, ← e2]
      exact if_pos rfl
    | succ i =>
      have e1 : r[i]? = some l := by simpa using e1
      have e2 : t[i]? = some m := by simpa using e2
      have n : l ≠ a := fun z => h1 (z ▸ List.mem_of_getElem? e1)
      show (if l = a then b else c l) = m
      rw [if_neg n]
      exact hc i l m e1 e2
theorem fn_map {pl ls : List Nm} {c : Nm → Nm} (hl : ls.length = pl.length) (hc : ∀ (i : Nat) (l m : Nm), pl[i]? = some l → ls[i]? = some m → c l = m) : pl.map c = ls := by
  apply List.ext_getElem?
  intro i
  rw [List.getElem?_map]
  cases e : pl[i]? with
  | none =>
    have := List.getElem?_eq_none_iff.mp e
    rw [List.getElem?_eq_none (by omega)]
    rfl
  | some l =>
    have lt := (List.getElem?_eq_some_iff.mp e).1
    have e2 : ls[i]? = some (ls[i]'(by omega)) := List.getElem?_eq_getElem _
    rw [e2]
    exact congrArg some (hc i l _ e e2)
theorem fn_inj {pl : List Nm} {c : Nm → Nm} (nd : (pl.map c).Nodup) : ∀ x ∈ pl, ∀ y ∈ pl, c x = c y → x = y := by
  intro x hx y hy e
  obtain ⟨i, hi, ei⟩ := List.getElem_of_mem hx
  obtain ⟨j, hj, ej⟩ := List.getElem_of_mem hy
  have : (pl.map c)[i]'(by simpa using hi) = (pl.map c)[j]'(by simpa using hj) := by
    rw [List.getElem_map, List.getElem_map, ei, ej, e]
  have ij := (List.getElem_inj nd).mp this
  subst ij
  exact ei.symm.trans ej
theorem merge_dkm {f : Nm → V} : ∀ {r done : List Nm}, (done ++ r).Nodup → mergeK (dkm done f) (dkm r f) = dkm (done ++ r) f
  | [], done, _ => by rw [List.append_nil]; rfl
  | l :: r, done, h => by
    have hl : l ∉ done := fun z => (List.nodup_append.mp h).2.2 l z l (List.mem_cons_self ..) rfl
    show mergeK (putK (dkm done f) (Sum.inr (S l)) (f l)) (dkm r f) = _
    rw [putK_new _ (dkm_no hl)]
    have e : dkm done f ++ [(Sum.inr (S l), f l)] = dkm (done ++ [l]) f := by
      unfold dkm
      rw [List.map_append]
      rfl
    have h2 : ((done ++ [l]) ++ r).Nodup := by rw [List.append_assoc]; exact h
    have := merge_dkm (f := f) (r := r) (done := done ++ [l]) h2
    rw [← e] at this
    rw [this, List.append_assoc]
    rfl
/-- a dict of names for places -/
def Called (H : Hp) (cd : Addr) (pl : List Nm) (c : Nm → Nm) : Prop := H cd = some (.dK (dkm pl fun l => .str (S (c l))))
theorem Called.get {H : Hp} {cd : Addr} {pl : List Nm} {c : Nm → Nm} (h : Called H cd pl c) {x : Nm} (hx : x ∈ pl) : DGet H cd (.str (S x)) (some (.str (S (c x)))) := by
  have := DGet.k (k := Sum.inr (S x)) h
  rw [dkm_get hx] at this
  exact this
theorem eqv_same {d : PyData} (h : SeqAt.shaped d = true) : PyData.eqv d d = true := SeqAt.eqv_refl d (by
  unfold SeqAt.shaped at h
  simp at h
  exact h.1)
theorem ties_lay : ∀ {ts : List Tie}, (∀ e ∈ ts, NameOk e.1 ∧ NameOk e.2.1) → PyData.canLayAll0 (ts.map tieD) = true ∧ PyData.depthAll (ts.map tieD) ≤ 1
  | [], _ => ⟨rfl, Nat.zero_le _⟩
  | e :: r, h => by
    obtain ⟨h1, h2⟩ := h e (List.mem_cons_self ..)
    obtain ⟨i1, i2⟩ := ties_lay (ts := r) fun y hy => h y (List.mem_cons_of_mem _ hy)
    constructor
    · show ((PyData.strOk (S e.1) && (PyData.strOk (S e.2.1) && (true && true))) && PyData.canLayAll0 (r.map tieD)) = true
      rw [strOk_S h1, strOk_S h2, i1]
      rfl
    · show max (max 0 (max 0 (max 0 0)) + 1) (PyData.depthAll (r.map tieD)) ≤ 1
      omega
theorem shaped_tree {pl : List Nm} {ts : List Tie} (h1 : ∀ l ∈ pl, NameOk l) (h2 : ∀ e ∈ ts, NameOk e.1 ∧ NameOk e.2.1) : SeqAt.shaped (treeD pl ts) = true := by
  have a : PyData.canLayAll0 (pl.map strD) = true := lay_strs h1
  have b : PyData.depthAll (pl.map strD) = 0 := dep_strs pl
  obtain ⟨c, e⟩ := ties_lay h2
  show ((PyData.canLayAll0 (pl.map strD) && (PyData.canLayAll0 (ts.map tieD) && true)) && decide (max (PyData.depthAll (pl.map strD) + 1) (max (PyData.depthAll (ts.map tieD) + 1) 0) + 1 ≤ 64)) = true
  rw [a, b, c, decide_eq_true (by omega)]
  rfl

/-! ### rearranged -/
theorem perm_of_map {α β : Type} {f : α → β} {xs ys : List β} (p : ys.Perm xs) : ∀ {l : List α}, l.map f = xs → ∃ m : List α, m.Perm l ∧ m.map f = ys := by
  induction p with
  | nil =>
    intro l h
    exact ⟨l, .refl _, h⟩
  | @cons x l1 l2 _ ih =>
    intro l h
    cases l with
    | nil => cases h
    | cons a r =>
      obtain ⟨h1, h2⟩ := List.cons.inj h
      obtain ⟨m, pm, em⟩ := ih h2
      exact ⟨a :: m, pm.cons a, by rw [List.map_cons, em, h1]⟩
  | swap x y l0 =>
    intro l h
    cases l with
    | nil => cases h
    | cons a r =>
      cases r with
      | nil => cases (List.cons.inj h).2
      | cons b r =>
        obtain ⟨h1, h2⟩ := List.cons.inj h
        obtain ⟨h3, h4⟩ := List.cons.inj h2
        exact ⟨b :: a :: r, List.Perm.swap a b r, by rw [List.map_cons, List.map_cons, h1, h3, h4]⟩
  | trans _ _ ih1 ih2 =>
    intro l h
    obtain ⟨m, pm, em⟩ := ih2 h
    obtain ⟨m2, pm2, em2⟩ := ih1 em
    exact ⟨m2, pm2.trans pm, em2⟩
theorem dtall_mem {H : Hp} : ∀ {vs : List V} {ds : List PyData}, DtAll H vs ds → ∀ q ∈ vs.zip ds, Dt H q.1 q.2
  | _, _, .nil, q, h => by cases h
  | _, _, .cons a t, q, h => by
    rcases List.mem_cons.mp h with e | h
    · rw [e]
      exact a
    · exact dtall_mem t q h
theorem dtall_of {H : Hp} {f : Tie → PyData} : ∀ l : List (V × Tie), (∀ q ∈ l, Dt H q.1 (f q.2)) → DtAll H (l.map (·.1)) ((l.map (·.2)).map f)
  | [], _ => .nil
  | q :: l, h => .cons (h q List.mem_cons_self) (dtall_of l fun q' hq => h q' (List.mem_cons_of_mem _ hq))
theorem dtall_perm {H : Hp} {vs ys : List V} {ts : List Tie} (p : ys.Perm vs) (h : DtAll H vs (ts.map tieD)) : ∃ es : List Tie, es.Perm ts ∧ DtAll H ys (es.map tieD) := by
  have l := DtAll.len h
  rw [List.length_map] at l
  obtain ⟨m, pm, em⟩ := perm_of_map (f := fun q : V × Tie => q.1) p (l := vs.zip ts) (List.map_fst_zip (by omega))
  refine ⟨m.map (·.2), ?_, ?_⟩
  · have := pm.map (·.2)
    rw [List.map_snd_zip (by omega)] at this
    exact this
  · rw [← em]
    refine dtall_of m fun q hq => ?_
    have := dtall_mem h (q.1, tieD q.2) ?_
    · exact this
    · have hz := pm.mem_iff.mp hq
      obtain ⟨i, hi⟩ := List.getElem?_of_mem hz
      obtain ⟨h1, h2⟩ := List.getElem?_zip_eq_some.mp hi
      exact List.mem_of_getElem? (i := i) (List.getElem?_zip_eq_some.mpr ⟨h1, by rw [List.getElem?_map, h2]; rfl⟩)
/-! ### ties turned about, places called otherwise -/
def turn (e : Tie) : Tie := (e.2.1, e.1, e.2.2)
def cal (c : Nm → Nm) (e : Tie) : Tie := (c e.1, c e.2.1, e.2.2)
theorem Grown.nd {os : List Nm} {es : List Tie} (g : Grown os es) : es.Nodup := by
  induction g with
  | one a => exact List.nodup_nil
  | @leaf os es a b k e0 g ha hb he k1 k2 ih =>
    refine List.nodup_append.mpr ⟨ih, by simp, fun x hx y hy z => ?_⟩
    rw [List.mem_singleton.mp hy] at z
    obtain ⟨h1, h2, _⟩ := g.ties x hx
    rw [z] at h1 h2
    rcases he with e | e <;> rw [e] at h1 h2
    · exact hb h2
    · exact hb h1
theorem IsTree.nd {pl : List Nm} {ts : List Tie} (h : IsTree pl ts) : ts.Nodup := by
  obtain ⟨os, es, g, _, p⟩ := h
  exact p.nodup_iff.mpr g.nd
theorem Grown.turned {τ : Tie → Tie} (hτ : ∀ e, τ e = e ∨ τ e = turn e) {os : List Nm} {es : List Tie} (g : Grown os es) : Grown os (es.map τ) := by
  induction g with
  | one a => exact .one a
  | @leaf os es a b k e0 g ha hb he k1 k2 ih =>
    rw [List.map_append]
    refine .leaf (a := a) (b := b) (k := k) ih ha hb ?_ k1 k2
    rcases hτ e0 with z | z
    · show τ e0 = _ ∨ τ e0 = _
      rw [z]
      exact he
    · show τ e0 = _ ∨ τ e0 = _
      rw [z]
      rcases he with e | e <;> rw [e]
      · exact .inr rfl
      · exact .inl rfl
theorem IsTree.turned {τ : Tie → Tie} (hτ : ∀ e, τ e = e ∨ τ e = turn e) {pl pl' : List Nm} {ts es : List Tie} (h : IsTree pl ts) (p : es.Perm ts) (p' : pl'.Perm pl) : IsTree pl' (es.map τ) := by
  obtain ⟨os, gs, g, p1, p2⟩ := h
  exact ⟨os, gs.map τ, g.turned hτ, p'.trans p1, (p.trans p2).map τ⟩
theorem Grown.called {c : Nm → Nm} {os : List Nm} {es : List Tie} (g : Grown os es) : (∀ x ∈ os, ∀ y ∈ os, c x = c y → x = y) → Grown (os.map c) (es.map (cal c)) := by
  induction g with
  | one a => exact fun _ => .one (c a)
  | @leaf os es a b k e0 g ha hbn he k1 k2 ih =>
    intro inj
    rw [List.map_append, List.map_append]
    refine .leaf (a := c a) (k := k) (ih fun x hx y hy => inj x (List.mem_append_left _ hx) y (List.mem_append_left _ hy)) (List.mem_map_of_mem ha) (fun z => ?_) ?_ k1 k2
    · obtain ⟨y, hy, e⟩ := List.mem_map.mp z
      have := inj y (List.mem_append_left _ hy) b (by simp) e
      exact hbn (this ▸ hy)
    · rcases he with e | e <;> rw [e]
      · exact .inl rfl
      · exact .inr rfl
theorem IsTree.called {c : Nm → Nm} {pl : List Nm} {ts : List Tie} (h : IsTree pl ts) (inj : ∀ x ∈ pl, ∀ y ∈ pl, c x = c y → x = y) : IsTree (pl.map c) (ts.map (cal c)) := by
  obtain ⟨os, es, g, p1, p2⟩ := h
  exact ⟨_, _, g.called fun x hx y hy => inj x (p1.mem_iff.mpr hx) y (p1.mem_iff.mpr hy), p1.map c, p2.map _⟩
theorem Fine.shaped {pl : List Nm} {ts : List Tie} (F : Fine pl ts) : SeqAt.shaped (treeD pl ts) = true := shaped_tree F.ok fun e he => F.okT he
end Far

namespace Far
open PySem PySem.Spec PyProof.Rows L2
open C8 (pss_cut tCut)
open SX (S)
structure TxtO (mg : Str → Option Value) : Prop where
  len : mg "len" = none
  tuple : mg "tuple" = none
  dict : mg "dict" = none
  zip : mg "zip" = none
theorem str_at {ls : List Nm} {i : Nat} {x : V} (h : ((ls.map S).map V.str)[i]? = some x) : ∃ l, ls[i]? = some l ∧ x = .str (S l) := by
  rw [List.getElem?_map, List.getElem?_map] at h
  cases el : ls[i]? with
  | none =>
    rw [el] at h
    cases h
  | some l =>
    rw [el] at h
    exact ⟨l, rfl, (Option.some.inj h).symm⟩
abbrev s_law_otherwise_right : Stmt := topS 23
abbrev N_law_otherwise_right : List Str := ["deck", "tree", "places", "ties", "turned", "one", "other", "length", "moved", "called", "newer", "some", "name", "a", "b", "long"]
theorem sc_law_otherwise_right : FnScope N_law_otherwise_right ["deck", "tree"] (defScope s_law_otherwise_right) := ⟨rfl, rfl, rfl, by decide +kernel, rfl, by decide +kernel, by decide +kernel⟩
section
variable {P : Program} {w : World} {K : PySem.W.Frag} {mg : Str → Option Value} {base : Heap} {C : Addr}
def spOther : Sp := fun vs H Q _ => ∃ (d dc : Addr) (n : Nat) (v : V) (pl : List Nm) (ts : List Tie), vs = [.ref d, v] ∧ DeckAt H d dc n ∧ n < 70000 ∧ Dt H v (treeD pl ts) ∧ Fine pl ts ∧ pl.length ≤ 30 ∧ ∀ H' : Hp, SmX d H H' → DeckAt H' d dc (n + 700) → Q (.bl true) H'
theorem ok_otherwise {f : Addr} {fd : FuncData} (F : Fun K "_law_otherwise_right" "_law_otherwise_right" s_law_otherwise_right f fd) (T : TxtO mg) (C_law_next : Cal P w K mg base 2 "_law_next" spNext) (C_law_names : Cal P w K mg base 4 "_law_names" spNames) (C_law_mixed : Cal P w K mg base 3 "_law_mixed" spMixed)
    (Ctree_shown : Cal P w K mg base 1 "tree_shown" spShown) (Cread_tree : CalX P w K mg base 4 "read_tree" (spReadX C)) : FnOk P w K mg base CX0 5 f fd ["deck", "tree"] spOther := by
  refine F.ok sc_law_otherwise_right (fun vs H Q E h => ?_) (fun cdv A outer s H vs Q E hr h => ?_)
  · obtain ⟨d, dc, n, v, pl, ts, rfl, _⟩ := h
    rfl
  · obtain ⟨d, dc, n, v, pl, ts, rfl, DD, hn, hd, fine, p30, q⟩ := h
    obtain ⟨t, a, b, vs, rfl, ht, ha, hb, hA⟩ := dt_tree hd
    have tr := fine.tree
    have len := tr.len
    have vl : vs.length = ts.length := by
      have := DtAll.len hA
      rwa [List.length_map] at this
    refine ⟨_, (pss_cons (ps_asg (pv 1) (pg_tup rfl (pgs_cons (pg_name (i := 2) sc_law_otherwise_right.nd rfl (.inl rfl)) (pgs_cons (pg_name (i := 3) sc_law_otherwise_right.nd rfl (.inl rfl)) pgs_nil))))
      (pss_cons (ps_set (i := 4) sc_law_otherwise_right.nd rfl (.inl rfl) (pe_lst pa_nil))
      (pss_cut (ps_for PassesOwn.never rfl (pi_list (pe_c C_law_mixed hr (by decide) rfl (pa_cons (pv 0) (pa_cons (pv 3) pa_nil)))) (pg_tup rfl (pgs_cons (pg_name (i := 5) sc_law_otherwise_right.nd rfl (.inl rfl)) (pgs_cons (pg_name (i := 6) sc_law_otherwise_right.nd rfl (.inl rfl)) (pgs_cons (pg_name (i := 7) sc_law_otherwise_right.nd rfl (.inl rfl)) pgs_nil))))
        (pss_one (ps_expr (pe_bm PySem.F.plainAttrs_list PySem.F.slot_list_append PySem.F.type_list_append mt_append (pv 4) (pa_cons (pe_ix ix_list (pe_lst (pa_cons (pe_tup (pa_cons (pv 5) (pa_cons (pv 6) (pa_cons (pv 7) pa_nil)))) (pa_cons (pe_tup (pa_cons (pv 6) (pa_cons (pv 5) (pa_cons (pv 7) pa_nil)))) pa_nil))) (pe_c C_law_next hr (by decide) rfl (pa_cons (pv 0) (pa_cons pe_int pa_nil))) (fun _ _ => rfl)) pa_nil)))))
      (pss_cons (ps_set (i := 8) sc_law_otherwise_right.nd rfl (.inl rfl) (pe_tup (pa_cons (pe_tupleOf (by rfl) T.tuple (pe_c C_law_mixed hr (by decide) rfl (pa_cons (pv 0) (pa_cons (pv 2) pa_nil)))) (pa_cons (pe_tupleOf (by rfl) T.tuple (pv 4)) pa_nil))))
      (pss_cons (ps_set (i := 9) sc_law_otherwise_right.nd rfl (.inr rfl) (pe_dictZip (by rfl) T.dict bt_dict (by rfl) T.zip (pa_cons (pv 2) (pa_cons (pe_c C_law_names hr (by decide) rfl (pa_cons (pv 0) (pa_cons (pe_callB call_len_seq (by rfl) T.len bt_len (pa_cons (pv 2) pa_nil)) pa_nil))) pa_nil))))
      (pss_cons (ps_set (i := 10) sc_law_otherwise_right.nd rfl (.inl rfl) (pe_tup (pa_cons (pe_tupleOf (by rfl) T.tuple (pe_lc (own := [("name", 12)]) (g := gName 12) (tt := tYes) rfl sc_law_otherwise_right.nd (pi_tup (pv 2)) (blkOk_by (N := N_law_otherwise_right) (sc := defScope s_law_otherwise_right) (by decide +kernel)) (fun _ _ _ _ _ => pg_name (i := 12) sc_law_otherwise_right.nd rfl (Or.inl rfl)) (fun _ _ _ _ _ => pts_nil) (fun _ _ _ _ _ => (pe_dget (hu_of hr) (pv 9) (pv 12) (fun _ _ => rfl))))) (pa_cons (pe_tupleOf (by rfl) T.tuple (pe_lc (own := [("a", 13), ("b", 14), ("long", 15)]) (g := gTup K 3 (gCons (gName 13) (gCons (gName 14) (gCons (gName 15) gNil)))) (tt := tYes) rfl sc_law_otherwise_right.nd (pi_tup (pv 3)) (blkOk_by (N := N_law_otherwise_right) (sc := defScope s_law_otherwise_right) (by decide +kernel)) (fun _ _ _ _ _ => (pg_tup rfl (pgs_cons (pg_name (i := 13) sc_law_otherwise_right.nd rfl (.inl rfl)) (pgs_cons (pg_name (i := 14) sc_law_otherwise_right.nd rfl (.inl rfl)) (pgs_cons (pg_name (i := 15) sc_law_otherwise_right.nd rfl (.inl rfl)) pgs_nil))))) (fun _ _ _ _ _ => pts_nil) (fun _ _ _ _ _ => (pe_tup (pa_cons (pe_dget (hu_of hr) (pv 9) (pv 13) (fun _ _ => rfl)) (pa_cons (pe_dget (hu_of hr) (pv 9) (pv 14) (fun _ _ => rfl)) (pa_cons (pv 15) pa_nil))))))) pa_nil))))
      (pss_cut (ps_for PassesOwn.never rfl (pi_list (pe_lst (pa_cons (pv 8) (pa_cons (pv 10) pa_nil)))) (pg_name (i := 11) sc_law_otherwise_right.nd rfl (.inl rfl))
        (pss_one (ps_if (pt_cmpR (op_neD (hd_of hr (by decide))) (pe_cX takes0 Cread_tree hr (by decide) rfl (pa_cons (pe_c Ctree_shown hr (by decide) rfl (pa_cons (pv 11) pa_nil)) pa_nil)) (pv 11) (nomark _))
          (pss_one (ps_ret pe_bl))
          pss_nil)))
      (pss_one (ps_ret pe_bl))))))))), ?_⟩
    refine ⟨_, rfl, t, _, rfl, SqT.of ht, rfl, _, _, rfl, _, _, rfl, rfl, ?_⟩
    refine ⟨Nat.zero_le _, fun g ng => ?_⟩
    have gd := DD.nd ng
    have gc := DD.nc ng
    have g0 : H g = none := ng
    have D1 := DD.new (o := .lst []) ng
    have S1 : SmX d H (upd H g (.lst [])) := (SmX.refl H).new ng
    have hg : (upd H g (.lst [])) g = some (.lst []) := upd_same
    have hb1 : (upd H g (.lst [])) b = some (.tup vs) := by rw [upd_ne (ne_of_none hb ng)]; exact hb
    have hA1 := DtAll.keep (TK.new (o := .lst []) ng) hA
    generalize upd H g (.lst []) = H1 at D1 S1 hg hb1 hA1
    have full : ∀ σ' : L2.St, σ' = σ' := fun _ => rfl
    refine ⟨fun σ' H' => ∃ (x5 x6 x7 : Option V) (ws : List V) (us : List Tie), σ' = [some (.ref d), some (.ref t), some (.ref a), some (.ref b), some (.ref g), x5, x6, x7, none, none, none, none, none, none, none, none] ∧ SmX d H H' ∧ DeckAt H' d dc (n + 60) ∧ H' g = some (.lst ws) ∧ DtAll H' ws (us.map tieD) ∧ us.length = ts.length ∧ ∀ pl' : List Nm, pl'.Perm pl → IsTree pl' us, ?_, fun σ' H' hM => ?_⟩
    · -- the ties mixed, turned about
      refine ⟨_, rfl, _, rfl, d, dc, b, n, vs, rfl, D1, by omega, .inl hb1, by omega, fun H2 D ys pm nD hD S2 D2 => ?_⟩
      have tk2 := D1.tk S2
      obtain ⟨es, pe, hE⟩ := dtall_perm pm (DtAll.keep tk2 hA1)
      have end_ : es.Nodup := pe.nodup_iff.mpr tr.nd
      have el := pe.length_eq
      have yl := pm.length_eq
      have Dd : D ≠ d := D1.nd nD
      have Dg : D ≠ g := (ne_of_none hg nD).symm
      have hg2 := S2 g _ gd hg
      refine ⟨D, rfl, ⟨_, SqL.of hD⟩, for_list (K := K) (a := D) (xs := ys) (fun i σ' H' => ∃ (x5 x6 x7 : Option V) (ws : List V) (τ : Tie → Tie), σ' = [some (.ref d), some (.ref t), some (.ref a), some (.ref b), some (.ref g), x5, x6, x7, none, none, none, none, none, none, none, none] ∧ SmX d H H' ∧ TK H2 H' ∧ H' D = some (.lst ys) ∧ DeckAt H' d dc (n + vs.length + i) ∧ H' g = some (.lst ws) ∧ DtAll H' ws (((es.take i).map τ).map tieD) ∧ ∀ e, τ e = e ∨ τ e = turn e)
        ⟨none, none, none, [], id, rfl, S1.trans S2, TK.refl _, hD, D2, hg2, .nil, fun e => .inl rfl⟩ (fun i σ' H' _ hP => ?_) (fun i y σ' H' hi hP => ?_) (fun σ' H' hP => ?_)⟩
      · obtain ⟨_, _, _, _, _, _, _, _, hD', _⟩ := hP
        exact SqL.of hD'
      · obtain ⟨x5, x6, x7, ws, τ, rfl, SM, tkM, hD', DK, hg', hW, hτ⟩ := hP
        obtain ⟨dd, hdd, hy⟩ := DtAll.get (DtAll.keep tkM hE) hi
        rw [List.getElem?_map] at hdd
        cases ee : es[i]? with
        | none => rw [ee] at hdd; cases hdd
        | some e =>
          rw [ee] at hdd
          have ed : dd = tieD e := (Option.some.inj hdd).symm
          subst ed
          obtain ⟨u, rfl, hu⟩ := dt_tie hy
          have il : i < es.length := (List.getElem?_eq_some_iff.mp ee).1
          have wl := DtAll.len hW
          rw [List.length_map, List.length_map, List.length_take] at wl
          refine ⟨u, _, rfl, SqT.of hu, rfl, _, _, rfl, _, _, rfl, _, _, rfl, rfl, ?_⟩
          refine ⟨_, rfl, .inl ⟨rfl, _, SqL.of hg'⟩, _, rfl, _, rfl, _, rfl, (by show 3 ≤ sizeLine; decide), fun p1 np1 => ⟨_, rfl, _, rfl, _, rfl, (by show 3 ≤ sizeLine; decide), fun p2 np2 => ⟨(by show 2 ≤ sizeLine; decide), fun p3 np3 => ?_⟩⟩⟩
          have Sn := same_new (o := .lst [.ref p1, .ref p2]) (same_new (o := .tup [.str (S e.2.1), .str (S e.1), .int e.2.2]) (same_new (o := .tup [.str (S e.1), .str (S e.2.1), .int e.2.2]) (Same.refl H') np1) np2) np3
          have DKn := ((DK.new (o := .tup [.str (S e.1), .str (S e.2.1), .int e.2.2]) np1).new (o := .tup [.str (S e.2.1), .str (S e.1), .int e.2.2]) np2).new (o := .lst [.ref p1, .ref p2]) np3
          have SMn := ((SM.new (o := .tup [.str (S e.1), .str (S e.2.1), .int e.2.2]) np1).new (o := .tup [.str (S e.2.1), .str (S e.1), .int e.2.2]) np2).new (o := .lst [.ref p1, .ref p2]) np3
          have h1 := (TK.new (o := .lst [.ref p1, .ref p2]) np3).tup p1 _ ((TK.new (o := .tup [.str (S e.2.1), .str (S e.1), .int e.2.2]) np2).tup p1 [.str (S e.1), .str (S e.2.1), .int e.2.2] upd_same)
          have h2 := (TK.new (o := .lst [.ref p1, .ref p2]) np3).tup p2 [.str (S e.2.1), .str (S e.1), .int e.2.2] upd_same
          have h3 : (upd (upd (upd H' p1 (.tup [.str (S e.1), .str (S e.2.1), .int e.2.2])) p2 (.tup [.str (S e.2.1), .str (S e.1), .int e.2.2])) p3 (.lst [.ref p1, .ref p2])) p3 = some (.lst [.ref p1, .ref p2]) := upd_same
          generalize upd (upd (upd H' p1 (.tup [.str (S e.1), .str (S e.2.1), .int e.2.2])) p2 (.tup [.str (S e.2.1), .str (S e.1), .int e.2.2])) p3 (.lst [.ref p1, .ref p2]) = Hn at Sn DKn SMn h1 h2 h3
          refine ⟨_, rfl, d, dc, _, 2, rfl, DKn, by omega, by decide, by decide, fun H5 r r0 r1 S5 D5 => ?_⟩
          have tk5 := DKn.tk S5
          have p3nd : p3 ≠ d := fun z => by
            obtain ⟨_, _, _, _, _, q1, _⟩ := DKn
            rw [z] at h3
            rw [h3] at q1
            cases q1
          have h35 := S5 p3 _ p3nd h3
          obtain ⟨ch, vch, hv, hch, hcase⟩ : ∃ (ch : Tie) (vch : V), atI [V.ref p1, .ref p2] r = some vch ∧ Dt H5 vch (tieD ch) ∧ (ch = e ∨ ch = turn e) := by
            by_cases c0 : r = 0
            · subst c0
              exact ⟨e, .ref p1, rfl, .tup (tk5.tup _ _ h1) (.cons (.str _) (.cons (.str _) (.cons (.int _) .nil))), .inl rfl⟩
            · have : r = 1 := by omega
              subst this
              exact ⟨turn e, .ref p2, rfl, .tup (tk5.tup _ _ h2) (.cons (.str _) (.cons (.str _) (.cons (.int _) .nil))), .inr rfl⟩
          have hg5 := S5 g _ gd (Sn _ _ hg')
          refine ⟨p3, _, r, vch, rfl, rfl, SqL.of h35, hv, ?_⟩
          refine ⟨g, ws, _, rfl, rfl, hg5, sz_lt (by omega), ?_⟩
          have tkg : TK H5 (upd H5 g (.lst (ws ++ [vch]))) := TK.mut hg5
          have tk' : TK H' H5 := (TK.of Sn).trans tk5
          refine ⟨_, _, _, ws ++ [vch], fun x => if x = e then ch else τ x, rfl, (SMn.trans S5).put g0, (tkM.trans tk').trans tkg, by rw [upd_ne Dg]; exact S5 D _ Dd (Sn _ _ hD'), ?_, upd_same, ?_, fun x => ?_⟩
          · rw [show n + vs.length + (i + 1) = n + vs.length + i + 1 by omega]
            exact D5.put gd gc
          · rw [List.take_add_one, ee, List.map_append, List.map_append]
            have e1 : (es.take i).map (fun x => if x = e then ch else τ x) = (es.take i).map τ := List.map_congr_left fun x hx => by
              have : x ≠ e := fun z => by
                obtain ⟨j, hj, ej⟩ := List.mem_take_iff_getElem.mp hx
                obtain ⟨hi', ei⟩ := List.getElem?_eq_some_iff.mp ee
                have := (List.getElem_inj end_).mp (ej.trans (z.trans ei.symm))
                omega
              rw [if_neg this]
            rw [e1]
            refine DtAll.app (DtAll.keep (tk'.trans tkg) hW) ?_
            show DtAll _ [vch] [tieD (if e = e then ch else τ e)]
            rw [if_pos rfl]
            exact .cons (Dt.keep tkg hch) .nil
          · show (if x = e then ch else τ x) = x ∨ (if x = e then ch else τ x) = turn x
            by_cases c : x = e
            · rw [if_pos c, c]
              exact hcase
            · rw [if_neg c]
              exact hτ x
      · obtain ⟨x5, x6, x7, ws, τ, rfl, SM, tkM, hD', DK, hg', hW, hτ⟩ := hP
        rw [List.take_of_length_le (by omega)] at hW
        exact ⟨x5, x6, x7, ws, es.map τ, rfl, SM, DK.mono (by omega), hg', hW, by rw [List.length_map]; exact el, fun pl' pp => tr.turned hτ pe pp⟩
    · obtain ⟨x5, x6, x7, ws, us, rfl, SM, DK, hg', hW, ul, hT⟩ := hM
      -- moved
      have aM := DD.tup ha SM
      refine ⟨_, rfl, _, rfl, d, dc, a, n + 60, _, rfl, DK, by omega, aM, by rw [List.length_map, List.length_map]; omega, fun H3 D2 zs pm2 nD2 hD2 S3 DK3 => ?_⟩
      rw [List.length_map, List.length_map] at DK3
      obtain ⟨pl2, pp, ez⟩ := perm_of_map (f := fun l : Nm => V.str (S l)) (xs := (pl.map S).map V.str) pm2 (l := pl) (by rw [List.map_map]; rfl)
      have ez' : zs = (pl2.map S).map V.str := by rw [← ez, List.map_map]; rfl
      subst ez'
      have SM3 := SM.trans S3
      have tk3 := DK.tk S3
      have hg3 := S3 g _ gd hg'
      refine .inl ⟨D2, _, rfl, SqL.of hD2, fun q1 nq1 => ?_⟩
      have gq1 : g ≠ q1 := ne_of_none hg3 nq1
      refine ⟨_, rfl, .inl ⟨g, ws, rfl, SqL.of (by rw [upd_ne gq1]; exact hg3), fun q2 nq2 => ⟨(by show 2 ≤ sizeLine; decide), fun mv nmv => ?_⟩⟩⟩
      have DKm := ((DK3.new (o := .tup ((pl2.map S).map V.str)) nq1).new (o := .tup ws) nq2).new (o := .tup [.ref q1, .ref q2]) nmv
      have SMm := ((SM3.new (o := .tup ((pl2.map S).map V.str)) nq1).new (o := .tup ws) nq2).new (o := .tup [.ref q1, .ref q2]) nmv
      have tkm : TK H3 (upd (upd (upd H3 q1 (.tup ((pl2.map S).map V.str))) q2 (.tup ws)) mv (.tup [.ref q1, .ref q2])) := ((TK.new nq1).trans (TK.new nq2)).trans (TK.new nmv)
      have hmv : Dt (upd (upd (upd H3 q1 (.tup ((pl2.map S).map V.str))) q2 (.tup ws)) mv (.tup [.ref q1, .ref q2])) (.ref mv) (treeD pl2 us) :=
        .tup upd_same (.cons (.tup (((TK.new nq2).trans (TK.new nmv)).tup _ _ upd_same) (dt_strs _ _)) (.cons (.tup ((TK.new nmv).tup _ _ upd_same) (DtAll.keep (tk3.trans tkm) hW)) .nil))
      generalize upd (upd (upd H3 q1 (.tup ((pl2.map S).map V.str))) q2 (.tup ws)) mv (.tup [.ref q1, .ref q2]) = H4 at DKm SMm hmv
      have fineM : Fine pl2 us := ⟨hT pl2 pp, fun l hl => fine.ok l (pp.mem_iff.mp hl), by rw [pp.length_eq]; exact fine.len⟩
      clear tkm hg3 tk3 hW aM nq1 nq2 nmv gq1
      -- called
      have a4 := DD.tup ha SMm
      refine ⟨_, rfl, _, rfl, _, rfl, a, _, rfl, .inr a4.sq, d, dc, n + 60 + pl.length, pl.length, by rw [List.length_map, List.length_map]; rfl, DKm, by omega, p30, fun H5 p ls np npd npc hp hl lnd lok S5 DK5 => ?_⟩
      have SM5 := SMm.trans S5
      have a5 := DD.tup ha SM5
      have hmv5 := Dt.keep (DKm.tk S5) hmv
      obtain ⟨c, hc⟩ := fn_of (pl := pl) (ls := ls) tr.nodup
      have emap := fn_map hl hc
      have inj : ∀ x ∈ pl, ∀ y ∈ pl, c x = c y → x = y := fn_inj (by rw [emap]; exact lnd)
      have cok : ∀ l ∈ pl, NameOk (c l) := fun l hl => lok _ (by rw [← emap]; exact List.mem_map_of_mem hl)
      have ek : (dkm pl fun l => V.str (S (c l))).map (fun k => kV k.1) = (pl.map S).map V.str := by
        unfold dkm
        rw [List.map_map, List.map_map]
        rfl
      have ev : (dkm pl fun l => V.str (S (c l))).map (·.2) = (ls.map S).map V.str := by
        unfold dkm
        rw [List.map_map, ← emap, List.map_map, List.map_map]
        rfl
      refine ⟨a, p, dkm pl fun l => .str (S (c l)), rfl, by rw [ek]; exact a5.sq, by rw [ev]; exact SqL.of hp, fun cd ncd => ?_⟩
      rw [show mergeK [] (dkm pl fun l => V.str (S (c l))) = dkm pl fun l => .str (S (c l)) from merge_dkm (done := []) tr.nodup]
      have SM6 := SM5.new (o := .dK (dkm pl fun l => .str (S (c l)))) ncd
      have DK6 := DK5.new (o := .dK (dkm pl fun l => .str (S (c l)))) ncd
      have hcd : Called (upd H5 cd (.dK (dkm pl fun l => .str (S (c l))))) cd pl c := upd_same
      have hmv6 := Dt.keep (TK.new (o := .dK (dkm pl fun l => .str (S (c l)))) ncd) hmv5
      generalize upd H5 cd (.dK (dkm pl fun l => .str (S (c l)))) = H6 at SM6 DK6 hcd hmv6
      clear ncd hp DK5 a5 hmv5 SM5 hmv DKm a4 SMm
      -- newer
      have tk06 : TK H H6 := DD.tk SM6
      have a6 := DD.tup ha SM6
      have hb6 := tk06.tup _ _ hb
      have hA6 := DtAll.keep tk06 hA
      refine ⟨_, rfl, a, rfl, ⟨_, a6.sq⟩, fun B nB => ?_⟩
      refine lc_tup (K := K) (a := a) (xs := (pl.map S).map V.str) (fun i H7 => Same H6 H7 ∧ H7 B = some (.lst ((((pl.take i).map c).map S).map V.str))) ⟨same_new (Same.refl _) nB, upd_same⟩ (fun i H7 _ hP => (a6.same hP.1).sq) (fun i y H7 hi hP => ?_) (fun H7 hP => ?_)
      · obtain ⟨l, el, rfl⟩ := str_at hi
        have lp : l ∈ pl := List.mem_of_getElem? el
        have hcd7 : Called H7 cd pl c := hP.1 _ _ hcd
        refine ⟨rfl, _, rfl, _, rfl, cd, .str (S (c l)), rfl, hcd7.get lp, _, hP.2, by rw [List.length_map, List.length_map, List.length_map, List.length_take]; exact sz_lt (by omega), same_put hP.1 nB, ?_⟩
        rw [upd_same, List.take_add_one, el, List.map_append, List.map_append, List.map_append]
        rfl
      · obtain ⟨S7, hB⟩ := hP
        rw [List.length_map, List.length_map, List.take_length] at hB
        refine .inl ⟨B, _, rfl, SqL.of hB, fun q3 nq3 => ?_⟩
        have S8 := same_new (o := .tup (((pl.map c).map S).map V.str)) S7 nq3
        have hq3 : (upd H7 q3 (.tup (((pl.map c).map S).map V.str))) q3 = some (.tup (((pl.map c).map S).map V.str)) := upd_same
        generalize upd H7 q3 (.tup (((pl.map c).map S).map V.str)) = H8 at S8 hq3
        have hb8 := S8 _ _ hb6
        have hA8 := DtAll.keep (TK.of S8) hA6
        refine ⟨_, rfl, b, rfl, ⟨_, SqT.of hb8⟩, fun G nG => ?_⟩
        refine lc_tup (K := K) (a := b) (xs := vs) (fun i H9 => Same H8 H9 ∧ ∃ ks, H9 G = some (.lst ks) ∧ DtAll H9 ks (((ts.take i).map (cal c)).map tieD)) ⟨same_new (Same.refl _) nG, [], upd_same, .nil⟩ (fun i H9 _ hP => SqT.of (hP.1 _ _ hb8)) (fun i y H9 hi hP => ?_) (fun H9 hP => ?_)
        · obtain ⟨S9, ks, hG, hK⟩ := hP
          obtain ⟨dd, hdd, hy⟩ := DtAll.get hA8 hi
          rw [List.getElem?_map] at hdd
          cases ee : ts[i]? with
          | none => rw [ee] at hdd; cases hdd
          | some e =>
            rw [ee] at hdd
            have ed : dd = tieD e := (Option.some.inj hdd).symm
            subst ed
            obtain ⟨u, rfl, hu⟩ := dt_tie hy
            obtain ⟨i1, i2, _⟩ := tr.ties e (List.mem_of_getElem? ee)
            have il : i < ts.length := (List.getElem?_eq_some_iff.mp ee).1
            have kl := DtAll.len hK
            rw [List.length_map, List.length_map, List.length_take] at kl
            have hcd9 : Called H9 cd pl c := S9 _ _ (S8 _ _ hcd)
            refine ⟨u, _, rfl, SqT.of (S9 _ _ hu), rfl, _, _, rfl, _, _, rfl, _, _, rfl, rfl, rfl, _, rfl, _, rfl, cd, .str (S (c e.1)), rfl, hcd9.get i1, _, rfl, _, rfl, cd, .str (S (c e.2.1)), rfl, hcd9.get i2, _, rfl, (by show 3 ≤ sizeLine; decide), fun k9 nk9 => ?_⟩
            have Gk : G ≠ k9 := ne_of_none hG nk9
            have hG9 : (upd H9 k9 (.tup [.str (S (c e.1)), .str (S (c e.2.1)), .int e.2.2])) G = some (.lst ks) := by rw [upd_ne Gk]; exact hG
            have tk9 := (TK.new (o := .tup [.str (S (c e.1)), .str (S (c e.2.1)), .int e.2.2]) nk9).trans (TK.mut (o := .lst (ks ++ [.ref k9])) hG9)
            refine ⟨ks, hG9, sz_lt (by omega), same_put (same_new S9 nk9) nG, ks ++ [.ref k9], upd_same, ?_⟩
            rw [List.take_add_one, ee, List.map_append, List.map_append]
            exact DtAll.app (DtAll.keep tk9 hK) (.cons (.tup ((TK.mut hG9).tup _ _ upd_same) (.cons (.str _) (.cons (.str _) (.cons (.int _) .nil)))) .nil)
        · obtain ⟨S9, ks, hG, hK⟩ := hP
          rw [vl, List.take_length] at hK
          refine .inl ⟨G, _, rfl, SqL.of hG, fun q4 nq4 => ⟨(by show 2 ≤ sizeLine; decide), fun nw nnw => ?_⟩⟩
          have tkN : TK H9 (upd (upd H9 q4 (.tup ks)) nw (.tup [.ref q3, .ref q4])) := (TK.new nq4).trans (TK.new nnw)
          have SN : Same H6 (upd (upd H9 q4 (.tup ks)) nw (.tup [.ref q3, .ref q4])) := same_new (same_new (S8.trans S9) nq4) nnw
          have hnw : Dt (upd (upd H9 q4 (.tup ks)) nw (.tup [.ref q3, .ref q4])) (.ref nw) (treeD (pl.map c) (ts.map (cal c))) :=
            .tup upd_same (.cons (.tup (tkN.tup _ _ (S9 _ _ hq3)) (dt_strs _ _)) (.cons (.tup ((TK.new nnw).tup _ _ upd_same) (DtAll.keep tkN hK)) .nil))
          generalize upd (upd H9 q4 (.tup ks)) nw (.tup [.ref q3, .ref q4]) = HN at SN hnw
          have fineN : Fine (pl.map c) (ts.map (cal c)) := ⟨tr.called inj, fun l hl => by
            obtain ⟨y, hy, rfl⟩ := List.mem_map.mp hl
            exact cok y hy, by rw [List.length_map]; exact fine.len⟩
          have hmvN := Dt.keep (TK.of SN) hmv6
          have SMN : SmX d H HN := fun x o nx h => SN _ _ (SM6 x o nx h)
          have DKN : DeckAt HN d dc (n + 60 + pl.length + 600) := by
            obtain ⟨cs, i, l, m, z, h1, h2, h3⟩ := DK6
            exact ⟨cs, i, l, m, z, SN _ _ h1, SN _ _ h2, h3⟩
          clear SN hK hG S9 nG hA8 hb8 hq3 S8 hB S7 nB hmv6 hcd
          -- both are read back
          refine ⟨fun σ' H' => Same HN H', ?_, fun σ' H' hM => q H' (fun x o nx h => hM _ _ (SMN x o nx h)) ?_⟩
          · refine ⟨_, rfl, _, rfl, (by show 2 ≤ sizeLine; decide), fun L nL => ?_⟩
            refine ⟨L, rfl, ⟨_, SqL.of upd_same⟩, for_list (K := K) (a := L) (xs := [.ref mv, .ref nw]) (fun i σ' H' => (∃ x11, σ' = [some (.ref d), some (.ref t), some (.ref a), some (.ref b), some (.ref g), x5, x6, x7, some (.ref mv), some (.ref cd), some (.ref nw), x11, none, none, none, none]) ∧ Same (upd HN L (.lst [.ref mv, .ref nw])) H') ⟨⟨_, rfl⟩, Same.refl _⟩ (fun i σ' H' _ hP => SqL.of (hP.2 _ _ upd_same)) (fun i y σ' H' hi hP => ?_) (fun σ' H' hP => (same_new (Same.refl HN) nL).trans hP.2)⟩
            obtain ⟨⟨x11, rfl⟩, S11⟩ := hP
            have SL : Same HN H' := (same_new (Same.refl HN) nL).trans S11
            obtain ⟨pl', ts', hy, fy⟩ : ∃ pl' ts', Dt H' y (treeD pl' ts') ∧ Fine pl' ts' := by
              have := List.mem_of_getElem? hi
              simp only [List.mem_cons, List.not_mem_nil, or_false] at this
              rcases this with e | e <;> rw [e]
              · exact ⟨pl2, us, Dt.keep (TK.of SL) hmvN, fineM⟩
              · exact ⟨_, _, Dt.keep (TK.of SL) hnw, fineN⟩
            refine ⟨_, rfl, y, pl', ts', rfl, hy, fy, fun H12 S12 => ?_⟩
            refine ⟨pl', ts', rfl, fy.shown, fun _ _ H13 t13 S13 _ h13 => ?_, fun _ c => absurd c (by have := fy.tree.len; omega), fun i e he r no => absurd (fy.tree.run i e (List.getElem?_eq_some_iff.mp he).1 he) no⟩
            have hy13 := Dt.keep (TK.of (S12.trans S13)) hy
            refine ⟨_, rfl, _, _, Dt.dp h13, Dt.dp hy13, fy.shaped, fy.shaped, ?_⟩
            rw [eqv_same fy.shaped]
            exact ⟨_, rfl, iteF ⟨⟨_, rfl⟩, S11.trans (S12.trans S13)⟩⟩
          · obtain ⟨cs, i, l, m, z, h1, h2, h3, h4, h5, h6, h7, h8⟩ := DKN.mono (show n + 60 + pl.length + 600 ≤ n + 700 by omega)
            exact ⟨cs, i, l, m, z, hM _ _ h1, hM _ _ h2, h3, h4, h5, h6, h7, h8⟩
end
end Far

namespace Far
open PySem PySem.Spec PyProof.Rows L2
open C8 (pss_cut tCut)
open SX (S)
theorem names_dt {H : Hp} {q : Addr} {ls : List Nm} (h : TupAt H q ((ls.map S).map V.str)) (ne : ls ≠ []) : Dt H (.ref q) (.tuple (ls.map strD)) := h.elim (fun h => .tup h (dt_strs H ls)) fun ⟨o, d, h⟩ => .tupZ rfl ne d h
theorem names_dt0 {H : Hp} {q : Addr} {ls : List Nm} (h : H q = some (.tup ((ls.map S).map V.str))) : Dt H (.ref q) (.tuple (ls.map strD)) := .tup h (dt_strs H ls)
theorem cat_any {K : PySem.W.Frag} {H : Hp} {a b : Addr} {xs ys : List V} {Q : VK} (ha : TupAt H a xs) (hb : TupAt H b ys) (l : xs.length + ys.length ≤ sizeLine) (k : ∀ p H', Same H H' → TupAt H' p (xs ++ ys) → Q (.ref p) H') : rCatA K (.ref a) (.ref b) H Q :=
  ⟨a, b, xs, ys, rfl, rfl, ha.sq, hb.sq, l, fun e => k b H (Same.refl _) (by rw [e]; exact hb), fun _ e => k a H (Same.refl _) (by rw [e, List.append_nil]; exact ha), fun _ _ p n => k p _ (same_new (Same.refl _) n) (.inl upd_same)⟩
theorem cat_any0 {K : PySem.W.Frag} {H : Hp} {a b : Addr} {xs ys : List V} {Q : VK} (ha : H a = some (.tup xs)) (hb : H b = some (.tup ys)) (l : xs.length + ys.length ≤ sizeLine) (k : ∀ p H', Same H H' → H' p = some (.tup (xs ++ ys)) → Q (.ref p) H') : rCatA K (.ref a) (.ref b) H Q :=
  ⟨a, b, xs, ys, rfl, rfl, SqT.of ha, SqT.of hb, l, fun e => k b H (Same.refl _) (by rw [e]; exact hb), fun _ e => k a H (Same.refl _) (by rw [e, List.append_nil]; exact ha), fun _ _ p n => k p _ (same_new (Same.refl _) n) upd_same⟩
theorem notInK {X : Cx} {K : PySem.W.Frag} (e : X.K = K := by rfl) : OpR X (compareOp .NotIn) (rIn K true) := by
  subst e
  exact op_notIn_seq
theorem cat_sz {x y : Str} {n m : Nat} (hx : x.length ≤ n) (hy : y.length ≤ m) (h : n + m ≤ 100000) : x.length + y.length ≤ sizeLine ∧ (x ++ y).length ≤ n + m := by
  refine ⟨Nat.le_trans (Nat.add_le_add hx hy) (Nat.le_trans h (by decide)), ?_⟩
  rw [PySem.Str.length_append]
  exact Nat.add_le_add hx hy
theorem joinL_snoc (s x : Nm) : ∀ {ys : List Nm}, ys ≠ [] → TL.joinL s (ys ++ [x]) = TL.joinL s ys ++ (s ++ x)
  | [], h => absurd rfl h
  | [a], _ => rfl
  | a :: b :: r, _ => by
    have ih := joinL_snoc s x (ys := b :: r) (by simp)
    show a ++ (s ++ TL.joinL s (b :: r ++ [x])) = (a ++ (s ++ TL.joinL s (b :: r))) ++ (s ++ x)
    rw [ih]
    simp
theorem text_snoc (pl : List Nm) (ts : List Tie) (e : Tie) : textT pl (ts ++ [e]) = textT pl ts ++ ([10] ++ rowT e) := by
  unfold textT rowsT
  rw [List.map_append]
  exact joinL_snoc [10] (rowT e) (ys := joinW pl :: ts.map rowT) (by simp)
theorem text_more (pl : List Nm) (ts : List Tie) (a b : Nm) : S (textT pl ts) ++ ("\n" : Str) ++ S a ++ (" " : Str) ++ S b ++ (" 3" : Str) = S (textT pl (ts ++ [(a, b, 3)])) := by
  rw [text_snoc, feed_is, blank_is, show (" 3" : Str) = S [32, 51] by decide +kernel, SX.S_cat, SX.S_cat, SX.S_cat, SX.S_cat, SX.S_cat]
  have : numW 3 = [51] := by decide +kernel
  have er : rowT (a, b, 3) = a ++ ([32] ++ (b ++ ([32] ++ [51]))) := by
    rw [← this]
    rfl
  rw [er]
  simp
theorem text_more9 (pl : List Nm) (ts : List Tie) (a b : Nm) : S (textT pl ts) ++ ("\n" : Str) ++ S a ++ (" " : Str) ++ S b ++ (" 9" : Str) = S (textT pl (ts ++ [(a, b, 9)])) := by
  rw [text_snoc, feed_is, blank_is, show (" 9" : Str) = S [32, 57] by decide +kernel, SX.S_cat, SX.S_cat, SX.S_cat, SX.S_cat, SX.S_cat]
  have : numW 9 = [57] := by decide +kernel
  have er : rowT (a, b, 9) = a ++ ([32] ++ (b ++ ([32] ++ [57]))) := by
    rw [← this]
    rfl
  rw [er]
  simp
theorem rows_out (pl : List Nm) (ts : List Tie) (i : Nat) : (rowsT pl ts).take (i + 1) ++ (rowsT pl ts).drop (i + 2) = rowsT pl (ts.eraseIdx i) := by
  unfold rowsT
  rw [List.take_succ_cons, List.drop_succ_cons, List.eraseIdx_eq_take_drop_succ, List.map_append, List.map_take, List.map_drop]
  rfl
theorem Fine.more {pl : List Nm} {ts : List Tie} (F : Fine pl ts) {a b : Nm} {k : Int} (ha : a ∈ pl) (ok : NameOk b) (k1 : 1 ≤ k) (k2 : k ≤ 1000000) (p30 : pl.length ≤ 30) : Shown pl (ts ++ [(a, b, k)]) := by
  have s := F.shown
  refine ⟨s.ne, s.nd, s.ok, s.len, fun e he => ?_, ?_⟩
  · rcases List.mem_append.mp he with he | he
    · exact s.ties e he
    · rw [List.mem_singleton.mp he]
      exact ⟨F.ok a ha, ok, k1, k2⟩
  · have := F.tree.len
    rw [List.length_append, List.length_singleton]
    omega
theorem IsTree.leaf {pl : List Nm} {ts : List Tie} (h : IsTree pl ts) {x nm : Nm} {k : Int} (hx : x ∈ pl) (hn : nm ∉ pl) (k1 : 1 ≤ k) (k2 : k ≤ 1000000) : IsTree (pl ++ [nm]) (ts ++ [(x, nm, k)]) := by
  obtain ⟨os, es, g, p1, p2⟩ := h
  exact ⟨os ++ [nm], es ++ [(x, nm, k)], .leaf (a := x) (b := nm) (k := k) g (p1.mem_iff.mp hx) (fun z => hn (p1.mem_iff.mpr z)) (.inl rfl) k1 k2, p1.append_right _, p2.append_right _⟩
theorem Shown.erase {pl : List Nm} {ts : List Tie} (s : Shown pl ts) (i : Nat) : Shown pl (ts.eraseIdx i) := ⟨s.ne, s.nd, s.ok, s.len, fun e he => s.ties e (List.mem_of_mem_eraseIdx he), by
  have := List.length_eraseIdx_le ts i
  have := s.tlen
  omega⟩
theorem some_new {pl ls : List Nm} (nd : ls.Nodup) (h : pl.length < ls.length) : ls.filter (fun l => decide (l ∉ pl)) ≠ [] := fun z => by
  have sub : ∀ l ∈ ls, l ∈ pl := fun l hl => by
    by_cases c : l ∈ pl
    · exact c
    · have : l ∈ ls.filter (fun l => decide (l ∉ pl)) := List.mem_filter.mpr ⟨hl, decide_eq_true c⟩
      rw [z] at this
      cases this
  have := nodup_sub_len _ _ nd sub
  omega
theorem cut_to {xs : List V} {j : Nat} (h : j ≤ xs.length) : cutV xs none (some (j : Int)) = xs.take j := by
  unfold cutV
  rw [HT.sIx_none, show HT.sIx xs.length xs.length (some (j : Int)) = min j xs.length from HT.sIx_nat _ _ j, Nat.min_eq_left h, List.drop_zero, Nat.sub_zero]
theorem cut_from {xs : List V} {j : Nat} (h : j ≤ xs.length) : cutV xs (some (j : Int)) none = xs.drop j := by
  unfold cutV
  rw [HT.sIx_none, show HT.sIx xs.length 0 (some (j : Int)) = min j xs.length from HT.sIx_nat _ _ j, Nat.min_eq_left h]
  exact List.take_of_length_le (by rw [List.length_drop]; omega)
theorem shaped_ties {ts : List Tie} (h : ∀ e ∈ ts, NameOk e.1 ∧ NameOk e.2.1) : SeqAt.shaped (.tuple (ts.map tieD)) = true := by
  obtain ⟨c, e⟩ := ties_lay h
  show (PyData.canLayAll0 (ts.map tieD) && decide (PyData.depthAll (ts.map tieD) + 1 ≤ 64)) = true
  rw [c, decide_eq_true (by omega)]
  rfl
abbrev s_law_more_right : Stmt := topS 24
abbrev N_law_more_right : List Str := ["deck", "tree", "places", "ties", "text", "one", "other", "at", "rows", "fresh", "tie", "name"]
theorem sc_law_more_right : FnScope N_law_more_right ["deck", "tree"] (defScope s_law_more_right) := ⟨rfl, rfl, rfl, by decide +kernel, rfl, by decide +kernel, by decide +kernel⟩
section
variable {P : Program} {w : World} {K : PySem.W.Frag} {mg : Str → Option Value} {base : Heap} {C : Addr}
def spMore : Sp := fun vs H Q _ => ∃ (d dc : Addr) (n : Nat) (v : V) (pl : List Nm) (ts : List Tie), vs = [.ref d, v] ∧ DeckAt H d dc n ∧ n < 70000 ∧ Dt H v (treeD pl ts) ∧ Fine pl ts ∧ pl.length ≤ 30 ∧ ∀ H' : Hp, SmX d H H' → DeckAt H' d dc (n + 700) → Q (.bl true) H'
theorem ok_more {f : Addr} {fd : FuncData} (F : Fun K "_law_more_right" "_law_more_right" s_law_more_right f fd) (T : TxtO mg) (C_law_next : Cal P w K mg base 2 "_law_next" spNext) (C_law_names : Cal P w K mg base 4 "_law_names" spNames)
    (Ctree_shown : Cal P w K mg base 1 "tree_shown" spShown) (Cread_tree : CalX P w K mg base 4 "read_tree" (spReadX C)) (C_law_row : Cal P w K mg base 5 "_law_row" spRow) : FnOk P w K mg base CX0 6 f fd ["deck", "tree"] spMore := by
  refine F.ok sc_law_more_right (fun vs H Q E h => ?_) (fun cdv A outer s H vs Q E hr h => ?_)
  · obtain ⟨d, dc, n, v, pl, ts, rfl, _⟩ := h
    rfl
  · obtain ⟨d, dc, n, v, pl, ts, rfl, DD, hn, hd, fine, p30, q⟩ := h
    obtain ⟨t, a, b, vs, rfl, ht, ha, hb, hA⟩ := dt_tree hd
    have tr := fine.tree
    have len := tr.len
    have vl : vs.length = ts.length := by
      have := DtAll.len hA
      rwa [List.length_map] at this
    have sqn : ((pl.map S).map V.str).length = pl.length := by rw [List.length_map, List.length_map]
    have l0 : (S (textT pl ts)).length ≤ 60000 := by rw [SX.S_len]; exact fine.shown.textLen
    refine ⟨_, (pss_cons (ps_asg (pv 1) (pg_tup rfl (pgs_cons (pg_name (i := 2) sc_law_more_right.nd rfl (.inr rfl)) (pgs_cons (pg_name (i := 3) sc_law_more_right.nd rfl (.inl rfl)) pgs_nil))))
      (pss_cons (ps_set (i := 4) sc_law_more_right.nd rfl (.inl rfl) (pe_c Ctree_shown hr (by decide) rfl (pa_cons (pv 1) pa_nil)))
      (pss_cons (ps_set (i := 5) sc_law_more_right.nd rfl (.inl rfl) (pe_ix ix_tup (pv 2) (pe_c C_law_next hr (by decide) rfl (pa_cons (pv 0) (pa_cons (pe_callB call_len_seq (by rfl) T.len bt_len (pa_cons (pv 2) pa_nil)) pa_nil))) (fun _ _ => rfl)))
      (pss_cons (ps_set (i := 6) sc_law_more_right.nd rfl (.inl rfl) (pe_ix ix_tup (pv 2) (pe_c C_law_next hr (by decide) rfl (pa_cons (pv 0) (pa_cons (pe_callB call_len_seq (by rfl) T.len bt_len (pa_cons (pv 2) pa_nil)) pa_nil))) (fun _ _ => rfl)))
      (pss_cut (ps_if (pt_cmpR op_ne (pe_c C_law_row hr (by decide) rfl (pa_cons (pe_op op_add_str (pe_op op_add_str (pe_op op_add_str (pe_op op_add_str (pe_op op_add_str (pv 4) pe_str) (pv 5)) pe_str) (pv 6)) pe_str) pa_nil)) (pe_op op_add (pe_callB call_len_seq (by rfl) T.len bt_len (pa_cons (pv 3) pa_nil)) pe_int) (nomark _))
        (pss_one (ps_ret pe_bl))
        pss_nil)
      (pss_cut (ps_if (pt_cmpR (op_neD (hd_of hr (by decide))) (pv 3) (pe_tup pa_nil) (nomark _))
        (pss_cons (ps_set (i := 7) sc_law_more_right.nd rfl (.inl rfl) (pe_c C_law_next hr (by decide) rfl (pa_cons (pv 0) (pa_cons (pe_callB call_len_seq (by rfl) T.len bt_len (pa_cons (pv 3) pa_nil)) pa_nil))))
        (pss_cons (ps_set (i := 8) sc_law_more_right.nd rfl (.inl rfl) (pe_split (pv 4) pe_str))
        (pss_one (ps_if (pt_cmpR op_ne (pe_c C_law_row hr (by decide) rfl (pa_cons (pe_join pe_str (pe_op op_cat (pe_slice sl_list (pv 8) po_none (po_some (pe_op op_add (pv 7) pe_int))) (pe_slice sl_list (pv 8) (po_some (pe_op op_add (pv 7) pe_int)) po_none))) pa_nil)) (pe_callB call_len_seq (by rfl) T.len bt_len (pa_cons (pv 3) pa_nil)) (nomark _))
          (pss_one (ps_ret pe_bl))
          pss_nil))))
        pss_nil)
      (pss_cut (ps_if (pt_cmpR op_gt (pe_callB call_len_seq (by rfl) T.len bt_len (pa_cons (pv 2) pa_nil)) pe_int (nomark _))
        (pss_one (ps_ret pe_bl))
        pss_nil)
      (pss_cons (ps_setLc (i := 9) (own := [("name", 11)]) (g := gName 11)  rfl sc_law_more_right.nd rfl rfl (sw_true rfl rfl rfl (by decide +kernel)) (pi_list (pe_c C_law_names hr (by decide) rfl (pa_cons (pv 0) (pa_cons (pe_op op_add (pe_callB call_len_seq (by rfl) T.len bt_len (pa_cons (pv 2) pa_nil)) pe_int) pa_nil)))) (blkOk_by (N := N_law_more_right) (sc := defScope s_law_more_right) (by decide +kernel)) (fun _ _ _ _ _ => pg_name (i := 11) sc_law_more_right.nd rfl (Or.inl rfl)) (fun _ _ _ _ _ => pts_one (pt_cmpR (notInK (K := K)) (pv 11) (pv 2) rfl)) (fun _ _ _ _ _ => (pv 11)))
      (pss_cons (ps_set (i := 10) sc_law_more_right.nd rfl (.inl rfl) (pe_tup (pa_cons (pv 5) (pa_cons (pe_ix ix_list (pv 9) pe_int (fun _ _ => rfl)) (pa_cons pe_int pa_nil)))))
      (pss_cut (ps_if (pt_cmpR (op_neD (hd_of hr (by decide))) (pe_cX takes0 Cread_tree hr (by decide) rfl (pa_cons (pe_c Ctree_shown hr (by decide) rfl (pa_cons (pe_tup (pa_cons (pe_op op_catA (pv 2) (pe_tup (pa_cons (pe_ix ix_list (pv 9) pe_int (fun _ _ => rfl)) pa_nil))) (pa_cons (pe_op op_catA (pv 3) (pe_tup (pa_cons (pv 10) pa_nil))) pa_nil))) pa_nil)) pa_nil)) (pe_tup (pa_cons (pe_op op_catA (pv 2) (pe_tup (pa_cons (pe_ix ix_list (pv 9) pe_int (fun _ _ => rfl)) pa_nil))) (pa_cons (pe_op op_catA (pv 3) (pe_tup (pa_cons (pv 10) pa_nil))) pa_nil))) (nomark _))
        (pss_one (ps_ret pe_bl))
        pss_nil)
      (pss_one (ps_ret (pe_cmpR op_eq (pe_c C_law_row hr (by decide) rfl (pa_cons (pe_op op_add_str (pe_op op_add_str (pe_op op_add_str (pe_op op_add_str (pe_op op_add_str (pv 4) pe_str) (pv 5)) pe_str) (pe_ix ix_list (pv 9) pe_int (fun _ _ => rfl))) pe_str) pa_nil)) (pe_op op_add (pe_callB call_len_seq (by rfl) T.len bt_len (pa_cons (pv 3) pa_nil)) pe_int) (nomark _)))))))))))))), ?_⟩
    refine ⟨_, rfl, t, _, rfl, SqT.of ht, rfl, _, _, rfl, _, _, rfl, rfl, ?_⟩
    refine ⟨_, rfl, .ref t, pl, ts, rfl, hd, fine, fun H1 S1 => ?_⟩
    have SM1 : SmX d H H1 := fun x o _ h => S1 x o h
    have DK1 : DeckAt H1 d dc n := by
      obtain ⟨cs, i, l, m, z, h1, h2, h3⟩ := DD
      exact ⟨cs, i, l, m, z, S1 _ _ h1, S1 _ _ h2, h3⟩
    have a1 := ha.same S1
    have p0 : 0 < pl.length := by omega
    -- one, other
    refine ⟨_, rfl, _, rfl, _, rfl, a, _, rfl, .inr a1.sq, d, dc, n, _, rfl, DK1, by omega, by rw [sqn]; omega, by rw [sqn]; omega, fun H2 r1 r10 r11 S2 DK2 => ?_⟩
    have a2 := DK1.tup a1 S2
    rw [sqn] at r11
    obtain ⟨one, e1, m1⟩ : ∃ l, pl[r1.toNat]? = some l ∧ l ∈ pl := ⟨pl[r1.toNat]'(by omega), List.getElem?_eq_getElem _, List.getElem_mem _⟩
    have v1 : atI ((pl.map S).map V.str) r1 = some (.str (S one)) := by
      rw [show r1 = ((r1.toNat : Nat) : Int) by omega]
      exact atI_nat (by rw [List.getElem?_map, List.getElem?_map, e1]; rfl)
    refine ⟨a, _, r1, _, rfl, rfl, a2.sq, v1, ?_⟩
    refine ⟨_, rfl, _, rfl, _, rfl, a, _, rfl, .inr a2.sq, d, dc, n + 1, _, rfl, DK2, by omega, by rw [sqn]; omega, by rw [sqn]; omega, fun H3 r2 r20 r21 S3 DK3 => ?_⟩
    have a3 := DK2.tup a2 S3
    rw [sqn] at r21
    obtain ⟨other, e2, m2⟩ : ∃ l, pl[r2.toNat]? = some l ∧ l ∈ pl := ⟨pl[r2.toNat]'(by omega), List.getElem?_eq_getElem _, List.getElem_mem _⟩
    have v2 : atI ((pl.map S).map V.str) r2 = some (.str (S other)) := by
      rw [show r2 = ((r2.toNat : Nat) : Int) by omega]
      exact atI_nat (by rw [List.getElem?_map, List.getElem?_map, e2]; rfl)
    refine ⟨a, _, r2, _, rfl, rfl, a3.sq, v2, ?_⟩
    have SM3 := (SM1.trans S2).trans S3
    have tk3 : TK H H3 := DD.tk SM3
    have hb3 := tk3.tup _ _ hb
    have l1 : (S one).length ≤ 8 := by rw [SX.S_len]; exact (fine.ok one m1).2.1
    have l2 : (S other).length ≤ 8 := by rw [SX.S_len]; exact (fine.ok other m2).2.1
    clear S1 S2 S3 SM1 DK1 DK2 a1 a2
    -- a round closed
    refine ⟨fun σ' H' => σ' = [some (.ref d), some (.ref t), some (.ref a), some (.ref b), some (.str (S (textT pl ts))), some (.str (S one)), some (.str (S other)), none, none, none, none, none] ∧ Same H3 H', ?_, fun σ' H' hM => ?_⟩
    · have c1 := cat_sz (x := S (textT pl ts)) (y := ("\n" : Str)) l0 (m := 1) (by decide +kernel) (by decide)
      have c2 := cat_sz (y := S one) c1.2 l1 (by decide)
      have c3 := cat_sz (y := (" " : Str)) c2.2 (m := 1) (by decide +kernel) (by decide)
      have c4 := cat_sz (y := S other) c3.2 l2 (by decide)
      have c5 := cat_sz (y := (" 3" : Str)) c4.2 (m := 2) (by decide +kernel) (by decide)
      refine ⟨_, rfl, _, _, rfl, rfl, c1.1, _, rfl, _, _, rfl, rfl, c2.1, _, _, rfl, rfl, c3.1, _, rfl, _, _, rfl, rfl, c4.1, _, _, rfl, rfl, c5.1, ?_⟩
      rw [text_more]
      refine ⟨pl, ts ++ [(one, other, 3)], _, rfl, fine.more m1 (fine.ok other m2) (by decide) (by decide) p30, row_round tr 3 m1 m2, fun H4 S4 => ?_⟩
      refine ⟨_, rfl, b, _, rfl, .inr (SqT.of (S4 _ _ hb3)), _, _, rfl, rfl, ?_⟩
      refine ⟨rfl, _, rfl, ?_⟩
      rw [decide_eq_true (show V.int (1 + (ts.length : Int)) = V.int ((vs.length : Int) + 1) by rw [vl, Int.add_comm])]
      exact iteF ⟨rfl, S4⟩
    · obtain ⟨rfl, S4⟩ := hM
      have DK4 : DeckAt H' d dc (n + 2) := by
        obtain ⟨cs, i, l, m, z, h1, h2, h3⟩ := DK3
        exact ⟨cs, i, l, m, z, S4 _ _ h1, S4 _ _ h2, h3⟩
      have SM4 : SmX d H H' := fun x o nx h => S4 _ _ (SM3 x o nx h)
      have a4 := a3.same S4
      have hb4 := S4 _ _ hb3
      have hA4 := DtAll.keep (tk3.trans (TK.of S4)) hA
      clear S4 DK3 SM3 a3 hb3 tk3
      -- a tie out
      refine ⟨fun σ' H5 => ∃ x7 x8, σ' = [some (.ref d), some (.ref t), some (.ref a), some (.ref b), some (.str (S (textT pl ts))), some (.str (S one)), some (.str (S other)), x7, x8, none, none, none] ∧ SmX d H' H5 ∧ DeckAt H5 d dc (n + 3), ?_, fun σ' H5 hM => ?_⟩
      · refine ⟨_, rfl, Nat.zero_le _, fun p1 np1 => ?_⟩
        have hb5 : (upd H' p1 (.tup [])) b = some (.tup vs) := by rw [upd_ne (ne_of_none hb4 np1)]; exact hb4
        have hA5 := DtAll.keep (TK.new (o := .tup []) np1) hA4
        refine ⟨.tuple (ts.map tieD), .tuple [], Dt.dp (.tup hb5 hA5), .tup (.inl (.inl upd_same)) .nil, shaped_ties fun e he => fine.okT he, by rfl, ?_⟩
        have DK5 := DK4.new (o := .tup []) np1
        have SM5 : SmX d H' (upd H' p1 (.tup [])) := (SmX.refl H').new np1
        by_cases c : ts = []
        · rw [show (PyData.tuple (ts.map tieD)).eqv (.tuple []) = true by rw [c]; rfl]
          exact ⟨_, rfl, iteF ⟨_, _, rfl, SM5, DK5.mono (by omega)⟩⟩
        · have ne : (PyData.tuple (ts.map tieD)).eqv (.tuple []) = false := by
            cases ts with
            | nil => exact absurd rfl c
            | cons e r => rfl
          rw [ne]
          have tpos : 0 < ts.length := List.length_pos_iff.mpr c
          refine ⟨_, rfl, iteT ?_⟩
          generalize upd H' p1 (.tup []) = H5 at hb5 hA5 DK5 SM5
          refine ⟨_, rfl, _, rfl, b, _, rfl, .inr (SqT.of hb5), d, dc, n + 2, _, rfl, DK5, by omega, by omega, by omega, fun H6 r r0 r1 S6 DK6 => ?_⟩
          have SM6 := SM5.trans S6
          have hb6 := (DK5.tk S6).tup _ _ hb5
          obtain ⟨k, rfl⟩ : ∃ k : Nat, r = (k : Int) := ⟨r.toNat, by omega⟩
          have hk : k < ts.length := by omega
          refine ⟨_, rfl, ⟨_, rfl⟩, _, _, rfl, rfl, by decide +kernel, by have := l0; exact Nat.le_trans (show _ ≤ 100000 by omega) (by decide), fun p2 np2 => ?_⟩
          rw [show Txt.split (S (textT pl ts)) ("\n" : Str) = (rowsT pl ts).map S from split_rows (by simp [rowsT]) fine.noFeed]
          have SM7 := SM6.new (o := .lst (((rowsT pl ts).map S).map V.str)) np2
          have DK7 := DK6.new (o := .lst (((rowsT pl ts).map S).map V.str)) np2
          have hb7 : (upd H6 p2 (.lst (((rowsT pl ts).map S).map V.str))) b = some (.tup vs) := by rw [upd_ne (ne_of_none hb6 np2)]; exact hb6
          have hp2 : (upd H6 p2 (.lst (((rowsT pl ts).map S).map V.str))) p2 = some (.lst (((rowsT pl ts).map S).map V.str)) := upd_same
          generalize upd H6 p2 (.lst (((rowsT pl ts).map S).map V.str)) = H7 at SM7 DK7 hb7 hp2
          refine ⟨⟨_, rfl⟩, _, rfl, _, rfl, _, _, rfl, rfl, _, rfl, p2, _, rfl, SqL.of hp2, fun c1 nc1 => ?_⟩
          have rl : (((rowsT pl ts).map S).map V.str).length = ts.length + 1 := by
            rw [List.length_map, List.length_map]
            unfold rowsT
            rw [List.length_cons, List.length_map]
          have hp2' : (upd H7 c1 (.lst (cutV (((rowsT pl ts).map S).map V.str) none (some ((k : Int) + 1))))) p2 = some (.lst (((rowsT pl ts).map S).map V.str)) := by rw [upd_ne (ne_of_none hp2 nc1)]; exact hp2
          refine ⟨_, rfl, _, rfl, _, _, rfl, rfl, _, rfl, p2, _, rfl, SqL.of hp2', fun c2 nc2 => ?_⟩
          have c12 : c1 ≠ c2 := ne_of_none upd_same nc2
          have k1 : cutV (((rowsT pl ts).map S).map V.str) none (some ((k : Int) + 1)) = (((rowsT pl ts).take (k + 1)).map S).map V.str := by
            rw [show ((k : Int) + 1) = ((k + 1 : Nat) : Int) by omega, cut_to (by omega), List.map_take, List.map_take]
          have k2 : cutV (((rowsT pl ts).map S).map V.str) (some ((k : Int) + 2)) none = (((rowsT pl ts).drop (k + 2)).map S).map V.str := by
            rw [show ((k : Int) + 2) = ((k + 2 : Nat) : Int) by omega, cut_from (by omega), List.map_drop, List.map_drop]
          have el := ((rowsT pl ts).take (k + 1)).length
          refine ⟨c1, c2, _, _, rfl, rfl, by rw [upd_ne c12]; exact upd_same, upd_same, ?_, fun c3 nc3 => ?_⟩
          · rw [k1, k2, List.length_map, List.length_map, List.length_map, List.length_map, List.length_take, List.length_drop]
            have : (rowsT pl ts).length = ts.length + 1 := by rw [List.length_map, List.length_map] at rl; exact rl
            exact sz_le (by omega)
          · have SM8 := ((SM7.new (o := .lst (cutV (((rowsT pl ts).map S).map V.str) none (some ((k : Int) + 1)))) nc1).new (o := .lst (cutV (((rowsT pl ts).map S).map V.str) (some ((k : Int) + 2)) none)) nc2).new (o := .lst (cutV (((rowsT pl ts).map S).map V.str) none (some ((k : Int) + 1)) ++ cutV (((rowsT pl ts).map S).map V.str) (some ((k : Int) + 2)) none)) nc3
            have DK8 := ((DK7.new (o := .lst (cutV (((rowsT pl ts).map S).map V.str) none (some ((k : Int) + 1)))) nc1).new (o := .lst (cutV (((rowsT pl ts).map S).map V.str) (some ((k : Int) + 2)) none)) nc2).new (o := .lst (cutV (((rowsT pl ts).map S).map V.str) none (some ((k : Int) + 1)) ++ cutV (((rowsT pl ts).map S).map V.str) (some ((k : Int) + 2)) none)) nc3
            have tk8 := ((TK.new (o := .lst (cutV (((rowsT pl ts).map S).map V.str) none (some ((k : Int) + 1)))) nc1).trans (TK.new (o := .lst (cutV (((rowsT pl ts).map S).map V.str) (some ((k : Int) + 2)) none)) nc2)).trans (TK.new (o := .lst (cutV (((rowsT pl ts).map S).map V.str) none (some ((k : Int) + 1)) ++ cutV (((rowsT pl ts).map S).map V.str) (some ((k : Int) + 2)) none)) nc3)
            have h3 : (upd (upd (upd H7 c1 (.lst (cutV (((rowsT pl ts).map S).map V.str) none (some ((k : Int) + 1))))) c2 (.lst (cutV (((rowsT pl ts).map S).map V.str) (some ((k : Int) + 2)) none))) c3 (.lst (cutV (((rowsT pl ts).map S).map V.str) none (some ((k : Int) + 1)) ++ cutV (((rowsT pl ts).map S).map V.str) (some ((k : Int) + 2)) none))) c3 = some (.lst (((rowsT pl (ts.eraseIdx k)).map S).map V.str)) := by
              rw [upd_same, k1, k2, ← List.map_append, ← List.map_append, rows_out]
            have hb8 := tk8.tup _ _ hb7
            generalize upd (upd (upd H7 c1 (.lst (cutV (((rowsT pl ts).map S).map V.str) none (some ((k : Int) + 1))))) c2 (.lst (cutV (((rowsT pl ts).map S).map V.str) (some ((k : Int) + 2)) none))) c3 (.lst (cutV (((rowsT pl ts).map S).map V.str) none (some ((k : Int) + 1)) ++ cutV (((rowsT pl ts).map S).map V.str) (some ((k : Int) + 2)) none)) = H8 at SM8 DK8 h3 hb8
            have she := fine.shown.erase k
            have s1 := she.sumLen
            have hf : (("\n" : Str)).length = 1 := by decide +kernel
            refine ⟨_, c3, (rowsT pl (ts.eraseIdx k)).map S, rfl, rfl, .inl (SqL.of h3), by rw [SX.lens, List.length_map, hf, Nat.mul_one]; exact Nat.le_trans (show _ ≤ 60000 from s1) (by decide), ?_⟩
            rw [feed_is, SX.join_S]
            refine ⟨pl, ts.eraseIdx k, _, rfl, she, row_out tr hk, fun H9 S9 => ?_⟩
            refine ⟨_, rfl, b, _, rfl, .inr (SqT.of (S9 _ _ hb8)), rfl, _, rfl, ?_⟩
            rw [decide_eq_true (show V.int (ts.length : Int) = V.int (vs.length : Int) by rw [vl])]
            refine iteF ⟨_, _, rfl, fun x o nx h => S9 _ _ (SM8 x o nx h), ?_⟩
            obtain ⟨cs, i, l, m, z, g1, g2, g3⟩ := DK8
            exact ⟨cs, i, l, m, z, S9 _ _ g1, S9 _ _ g2, g3⟩
      · obtain ⟨x7, x8, rfl, SM5, DK5⟩ := hM
        have SM := SM4.trans SM5
        have a5 := DK4.tup a4 SM5
        have tk5 := DK4.tk SM5
        have hb5 := tk5.tup _ _ hb4
        have hA5 := DtAll.keep tk5 hA4
        clear SM5 SM4 DK4 a4 tk5 hb4 hA4
        refine ⟨fun σ' H6 => σ' = [some (.ref d), some (.ref t), some (.ref a), some (.ref b), some (.str (S (textT pl ts))), some (.str (S one)), some (.str (S other)), x7, x8, none, none, none] ∧ H6 = H5 ∧ pl.length ≤ 29, ?_, fun σ' H6 hM => ?_⟩
        · refine ⟨_, rfl, a, _, rfl, .inr a5.sq, _, _, rfl, rfl, _, rfl, ?_⟩
          by_cases c : pl.length ≤ 29
          · rw [decide_eq_false (by rw [sqn]; omega)]
            exact iteF ⟨rfl, rfl, c⟩
          · rw [decide_eq_true (by rw [sqn]; omega)]
            exact iteT (q H5 SM (DK5.mono (by omega)))
        · obtain ⟨rfl, rfl, p29⟩ := hM
          -- a new name
          refine ⟨_, rfl, _, rfl, a, _, rfl, .inr a5.sq, _, _, rfl, rfl, d, dc, n + 3, pl.length + 1, by rw [sqn]; rfl, DK5, by omega, by omega, fun H7 p ls np npd npc hp hl lnd lok S7 DK7 => ?_⟩
          have SM7 := SM.trans S7
          have a7 := DK5.tup a5 S7
          have tk7 := DK5.tk S7
          have hb7 := tk7.tup _ _ hb5
          have hA7 := DtAll.keep tk7 hA5
          refine ⟨p, rfl, ⟨_, SqL.of hp⟩, fun B nB => ?_⟩
          refine lc_list (K := K) (a := p) (xs := (ls.map S).map V.str) (fun i H8 => Same H7 H8 ∧ H8 B = some (.lst ((((ls.take i).filter fun l => decide (l ∉ pl)).map S).map V.str))) ⟨same_new (Same.refl H7) nB, upd_same⟩ (fun i H8 _ hP => SqL.of (hP.1 _ _ hp)) (fun i y H8 hi hP => ?_) (fun H8 hP => ?_)
          · obtain ⟨S8, hB⟩ := hP
            obtain ⟨l, el, rfl⟩ := str_at hi
            refine ⟨rfl, _, rfl, _, rfl, a, _, rfl, .inr (a7.same S8).sq, rfl, flat_strs pl, _, rfl, ?_⟩
            rw [inV_strs, List.take_add_one, el, List.filter_append]
            by_cases c : l ∈ pl
            · rw [decide_eq_true c]
              refine iteF ⟨S8, ?_⟩
              rw [hB]
              simp [c]
            · rw [decide_eq_false c]
              refine iteT ⟨_, rfl, _, hB, ?_, same_put S8 nB, ?_⟩
              · rw [List.length_map, List.length_map]
                have h1 := List.length_filter_le (fun l => decide (l ∉ pl)) (ls.take i)
                rw [List.length_take] at h1
                exact sz_lt (by omega)
              · rw [upd_same, List.map_append, List.map_append]
                simp [c]
          · obtain ⟨S8, hB⟩ := hP
            rw [List.length_map, List.length_map, List.take_length] at hB
            have fne := some_new (pl := pl) lnd (by omega)
            have fmem : ∀ l ∈ ls.filter (fun l => decide (l ∉ pl)), l ∉ pl ∧ NameOk l := fun l hl => ⟨of_decide_eq_true (List.mem_filter.mp hl).2, lok l (List.mem_filter.mp hl).1⟩
            generalize ls.filter (fun l => decide (l ∉ pl)) = fs at hB fne fmem
            obtain ⟨x, fr, rfl⟩ : ∃ x fr, fs = x :: fr := by
              cases fs with
              | nil => exact absurd rfl fne
              | cons x fr => exact ⟨x, fr, rfl⟩
            obtain ⟨xn, xok⟩ := fmem x List.mem_cons_self
            have a8 := a7.same S8
            have hb8 := S8 _ _ hb7
            have hA8 := DtAll.keep (TK.of S8) hA7
            have SM8 : SmX d H H8 := fun y o nx h => S8 _ _ (SM7 y o nx h)
            have DK8 : DeckAt H8 d dc (n + 3 + 600) := by
              obtain ⟨cs, i, l, m, z, g1, g2, g3⟩ := DK7
              exact ⟨cs, i, l, m, z, S8 _ _ g1, S8 _ _ g2, g3⟩
            clear S8 hA7 hb7 a7 tk7 SM7 DK7 S7 hp nB
            have fineL : Fine (pl ++ [x]) (ts ++ [(one, x, 9)]) := ⟨tr.leaf m1 xn (by decide) (by decide), fun l hl => by
              rcases List.mem_append.mp hl with hl | hl
              · exact fine.ok l hl
              · rw [List.mem_singleton.mp hl]
                exact xok, by rw [List.length_append, List.length_singleton]; omega⟩
            -- tie
            refine ⟨_, rfl, _, rfl, B, _, 0, _, rfl, rfl, SqL.of hB, atI_nat (j := 0) rfl, (by show 3 ≤ sizeLine; decide), fun tt ntt => ?_⟩
            have T9 := same_new (o := .tup [.str (S one), .str (S x), .int 9]) (Same.refl H8) ntt
            have htt : (upd H8 tt (.tup [.str (S one), .str (S x), .int 9])) tt = some (.tup [.str (S one), .str (S x), .int 9]) := upd_same
            generalize upd H8 tt (.tup [.str (S one), .str (S x), .int 9]) = H9 at T9 htt
            have dtt : Dt H9 (.ref tt) (tieD (one, x, 9)) := .tup htt (.cons (.str _) (.cons (.str _) (.cons (.int _) .nil)))
            -- what the tree with the leaf is, built anew from any later heap
            have hB9 := T9 _ _ hB
            have a9 := a8.same T9
            have hb9 := T9 _ _ hb8
            have hA9 := DtAll.keep (TK.of T9) hA8
            have SM9 : SmX d H H9 := fun y o nx h => T9 _ _ (SM8 y o nx h)
            refine ⟨fun σ' H10 => σ' = [some (.ref d), some (.ref t), some (.ref a), some (.ref b), some (.str (S (textT pl ts))), some (.str (S one)), some (.str (S other)), x7, x8, some (.ref B), some (.ref tt), none] ∧ Same H9 H10, ?_, fun σ' H10 hM => ?_⟩
            · have U1 := Same.refl H9
              refine ⟨_, rfl, _, rfl, B, _, 0, _, rfl, rfl, SqL.of (U1 _ _ hB9), atI_nat (j := 0) rfl, (by show 1 ≤ sizeLine; decide), fun e1 ne1 => ?_⟩
              have V1 := same_new (o := .tup [V.str (S x)]) U1 ne1
              have Q1 := same_new (o := .tup [V.str (S x)]) (Same.refl H9) ne1
              have he1 : (upd H9 e1 (.tup [V.str (S x)])) e1 = some (.tup [V.str (S x)]) := upd_same
              generalize upd H9 e1 (.tup [V.str (S x)]) = G1 at V1 Q1 he1
              refine cat_any (xs := (pl.map S).map V.str) (ys := [.str (S x)]) (a9.same V1) (.inl he1) (by rw [sqn]; exact sz_le (by simp; omega)) fun p1 J1 W1 hp1 => ?_
              have X1 := V1.trans W1
              refine ⟨_, rfl, _, rfl, (by show 1 ≤ sizeLine; decide), fun g1 ng1 => ?_⟩
              have Y1 := same_new (o := .tup [V.ref tt]) (Same.refl J1) ng1
              have hg1 : (upd J1 g1 (.tup [V.ref tt])) g1 = some (.tup [V.ref tt]) := upd_same
              generalize upd J1 g1 (.tup [V.ref tt]) = L1 at Y1 hg1
              refine cat_any0 (xs := vs) (ys := [.ref tt]) ((X1.trans Y1) _ _ hb9) hg1 (by exact sz_le (by simp; omega)) fun r1 M1 Z1 hr1 => ?_
              refine ⟨(by show 2 ≤ sizeLine; decide), fun nt1 nn1 => ?_⟩
              have N1 := same_new (o := .tup [.ref p1, .ref r1]) (Same.refl M1) nn1
              have nw1 : (upd M1 nt1 (.tup [.ref p1, .ref r1])) nt1 = some (.tup [.ref p1, .ref r1]) := upd_same
              generalize upd M1 nt1 (.tup [.ref p1, .ref r1]) = O1 at N1 nw1
              have A1 := ((X1.trans Y1).trans Z1).trans N1
              have dN1 : Dt O1 (.ref nt1) (treeD (pl ++ [x]) (ts ++ [(one, x, 9)])) := by
                refine .tup nw1 (.cons ?_ (.cons (.tup (N1 _ _ hr1) ?_) .nil))
                · have h := names_dt (ls := pl ++ [x]) (q := p1) (H := O1) (by
                    have := ((hp1.same Y1).same Z1).same N1
                    rw [List.map_append, List.map_append]
                    exact this) (by simp)
                  exact h
                · rw [List.map_append]
                  exact DtAll.app (DtAll.keep (TK.of A1) hA9) (.cons (Dt.keep (TK.of A1) dtt) .nil)
              refine ⟨.ref nt1, pl ++ [x], ts ++ [(one, x, 9)], rfl, dN1, fineL, fun H12 S12 => ?_⟩
              refine ⟨_, _, rfl, fineL.shown, fun _ _ H13 t13 S13 _ h13 => ?_, fun _ c => absurd c (by have := fineL.tree.len; omega), fun i e he r no => absurd (fineL.tree.run i e (List.getElem?_eq_some_iff.mp he).1 he) no⟩
              have U2 : Same H9 H13 := (A1.trans S12).trans S13
              refine ⟨_, rfl, _, rfl, B, _, 0, _, rfl, rfl, SqL.of (U2 _ _ hB9), atI_nat (j := 0) rfl, (by show 1 ≤ sizeLine; decide), fun e2 ne2 => ?_⟩
              have V2 := same_new (o := .tup [V.str (S x)]) U2 ne2
              have Q2 := same_new (o := .tup [V.str (S x)]) (Same.refl H13) ne2
              have he2 : (upd H13 e2 (.tup [V.str (S x)])) e2 = some (.tup [V.str (S x)]) := upd_same
              generalize upd H13 e2 (.tup [V.str (S x)]) = G2 at V2 Q2 he2
              refine cat_any (xs := (pl.map S).map V.str) (ys := [.str (S x)]) (a9.same V2) (.inl he2) (by rw [sqn]; exact sz_le (by simp; omega)) fun p2 J2 W2 hp2 => ?_
              have X2 := V2.trans W2
              refine ⟨_, rfl, _, rfl, (by show 1 ≤ sizeLine; decide), fun g2 ng2 => ?_⟩
              have Y2 := same_new (o := .tup [V.ref tt]) (Same.refl J2) ng2
              have hg2 : (upd J2 g2 (.tup [V.ref tt])) g2 = some (.tup [V.ref tt]) := upd_same
              generalize upd J2 g2 (.tup [V.ref tt]) = L2 at Y2 hg2
              refine cat_any0 (xs := vs) (ys := [.ref tt]) ((X2.trans Y2) _ _ hb9) hg2 (by exact sz_le (by simp; omega)) fun r2 M2 Z2 hr2 => ?_
              refine ⟨(by show 2 ≤ sizeLine; decide), fun nt2 nn2 => ?_⟩
              have N2 := same_new (o := .tup [.ref p2, .ref r2]) (Same.refl M2) nn2
              have nw2 : (upd M2 nt2 (.tup [.ref p2, .ref r2])) nt2 = some (.tup [.ref p2, .ref r2]) := upd_same
              generalize upd M2 nt2 (.tup [.ref p2, .ref r2]) = O2 at N2 nw2
              have A2 := ((X2.trans Y2).trans Z2).trans N2
              have dN2 : Dt O2 (.ref nt2) (treeD (pl ++ [x]) (ts ++ [(one, x, 9)])) := by
                refine .tup nw2 (.cons ?_ (.cons (.tup (N2 _ _ hr2) ?_) .nil))
                · have h := names_dt (ls := pl ++ [x]) (q := p2) (H := O2) (by
                    have := ((hp2.same Y2).same Z2).same N2
                    rw [List.map_append, List.map_append]
                    exact this) (by simp)
                  exact h
                · rw [List.map_append]
                  exact DtAll.app (DtAll.keep (TK.of A2) hA9) (.cons (Dt.keep (TK.of A2) dtt) .nil)
              have h13' := Dt.keep (TK.of ((((Q2.trans W2).trans Y2).trans Z2).trans N2)) h13
              refine ⟨_, _, Dt.dp h13', Dt.dp dN2, fineL.shaped, fineL.shaped, ?_⟩
              rw [eqv_same fineL.shaped]
              exact ⟨_, rfl, iteF ⟨rfl, A2⟩⟩
            · obtain ⟨rfl, S10⟩ := hM
              have c1 := cat_sz (x := S (textT pl ts)) (y := ("\n" : Str)) l0 (m := 1) (by decide +kernel) (by decide)
              have c2 := cat_sz (y := S one) c1.2 l1 (by decide)
              have c3 := cat_sz (y := (" " : Str)) c2.2 (m := 1) (by decide +kernel) (by decide)
              have c4 := cat_sz (y := S x) (m := 8) c3.2 (by rw [SX.S_len]; exact xok.2.1) (by decide)
              have c5 := cat_sz (y := (" 9" : Str)) c4.2 (m := 2) (by decide +kernel) (by decide)
              refine ⟨_, rfl, _, _, rfl, rfl, c1.1, _, rfl, _, _, rfl, rfl, c2.1, _, _, rfl, rfl, c3.1, _, rfl, B, _, 0, _, rfl, rfl, SqL.of (S10 _ _ hB9), atI_nat (j := 0) rfl, _, _, rfl, rfl, c4.1, _, _, rfl, rfl, c5.1, ?_⟩
              rw [text_more9]
              refine ⟨pl, ts ++ [(one, x, 9)], _, rfl, fine.more m1 xok (by decide) (by decide) p30, row_early tr 9 xn, fun H14 S14 => ?_⟩
              have S94 := S10.trans S14
              refine ⟨_, rfl, b, _, rfl, .inr (SqT.of (S94 _ _ hb9)), _, _, rfl, rfl, ?_⟩
              refine ⟨rfl, ?_⟩
              rw [decide_eq_true (show V.int (1 + (ts.length : Int)) = V.int ((vs.length : Int) + 1) by rw [vl, Int.add_comm])]
              refine q H14 (fun y o nx h => S94 _ _ (SM9 y o nx h)) ?_
              obtain ⟨cs, i, l, m, z, g1, g2, g3⟩ := DK8.mono (show n + 3 + 600 ≤ n + 700 by omega)
              exact ⟨cs, i, l, m, z, S94 _ _ (T9 _ _ g1), S94 _ _ (T9 _ _ g2), g3⟩
end
end Far

namespace Far
open PySem PySem.Spec PyProof.Rows L2
open C8 (pss_cut tCut)
open SX (S)
abbrev s_law_deck : Stmt := topS 16
abbrev N_law_deck : List Str := ["script"]
theorem sc_law_deck : FnScope N_law_deck ["script"] (defScope s_law_deck) := ⟨rfl, rfl, rfl, by decide +kernel, rfl, by decide +kernel, by decide +kernel⟩
section
variable {P : Program} {w : World} {K : PySem.W.Frag} {mg : Str → Option Value} {base : Heap}
theorem cut_all (xs : List V) (h : xs.length ≤ 63) : cutV xs none (some 63) = xs := by
  unfold cutV
  rw [HT.sIx_none, show HT.sIx xs.length xs.length (some 63) = min 63 xs.length from HT.sIx_nat _ _ 63, Nat.min_eq_right h, List.drop_zero, Nat.sub_zero]
  exact List.take_length
theorem cut_one (x : V) (r : List V) : cutV (x :: r) (some 1) none = r := by
  unfold cutV
  rw [show HT.sIx (x :: r).length 0 (some 1) = min 1 (x :: r).length from HT.sIx_nat _ 0 1, HT.sIx_none]
  have e : min 1 (x :: r).length = 1 := by rw [List.length_cons]; omega
  rw [e]
  show r.take ((x :: r).length - 1) = r
  rw [List.length_cons, Nat.add_sub_cancel]
  exact List.take_length
theorem not_whole (x : V) (r : List V) : ¬ (HT.sIx (x :: r).length 0 (some 1) = 0 ∧ HT.sIx (x :: r).length (x :: r).length none = (x :: r).length) := by
  rw [show HT.sIx (x :: r).length 0 (some 1) = min 1 (x :: r).length from HT.sIx_nat _ 0 1]
  intro z
  have := z.1
  simp at this
def spDeck (K : PySem.W.Frag) : Sp := fun vs H Q _ => ∃ (a : Addr) (ns : List Int), vs = [.ref a] ∧ SqL K H a (ns.map V.int) ∧ ns.length ≤ 63 ∧ ∀ (H' : Hp) (d c : Addr), Same H H' → H d = none → DeckAt H' d c 0 → Q (.ref d) H'
theorem ok_deck {f : Addr} {fd : FuncData} (F : Fun K "_law_deck" "_law_deck" s_law_deck f fd) (T : Txt mg) : FnOk P w K mg base CX0 1 f fd ["script"] (spDeck K) := by
  refine F.ok sc_law_deck (fun vs H Q E h => ?_) (fun cdv A outer s H vs Q E hr h => ?_)
  · obtain ⟨a, ns, rfl, _⟩ := h
    rfl
  · obtain ⟨a, ns, rfl, hS, hl, q⟩ := h
    refine ⟨_, (pss_one (ps_ret (pe_lst (pa_cons (pe_slice sl_list (pv 0) po_none (po_some pe_int)) (pa_cons pe_int (pa_cons pe_int (pa_cons pe_int (pa_cons (pe_callB (cr_sum rfl) (by rfl) T.sum bt_sum (pa_cons (pe_slice sl_list (pv 0) po_none (po_some pe_int)) pa_nil)) pa_nil)))))))), ?_⟩
    have hl' : (ns.map V.int).length ≤ 63 := by rw [List.length_map]; exact hl
    refine ⟨_, rfl, 63, rfl, a, _, rfl, hS, fun c nc => ?_⟩
    rw [cut_all _ hl']
    have S1 : Same H (upd H c (.lst (ns.map V.int))) := same_new (Same.refl H) nc
    refine ⟨_, rfl, 63, rfl, a, _, rfl, S1.seq hS, fun c2 nc2 => ?_⟩
    rw [cut_all _ hl']
    have S2 := same_new (o := .lst (ns.map V.int)) S1 nc2
    refine ⟨c2, ns, rfl, SqL.of upd_same, (by show 5 ≤ sizeLine; decide), fun d nd => ?_⟩
    have S3 := same_new (o := .lst [.ref c, .int 0, .int 0, .int 0, .int ns.sum]) S2 nd
    have h2 : (upd (upd H c (.lst (ns.map V.int))) c2 (.lst (ns.map V.int))) c = some (.lst (ns.map V.int)) := by
      rw [upd_ne (ne_of_none upd_same nc2)]
      exact upd_same
    exact q _ d c S3 (S2.free nd) ⟨ns, 0, 0, 0, ns.sum, upd_same, by rw [upd_ne (ne_of_none h2 nd)]; exact h2, ne_of_none h2 nd, hl, by omega, by omega, by omega, by omega, by omega⟩
end
end Far

namespace Far
open PySem PySem.Spec PyProof.Rows L2
open C8 (pss_cut tCut)
open SX (S)
theorem deck_at {H H' : Hp} {d c : Addr} {n : Nat} (h : DeckAt H d c n) (s : Same H H') : DeckAt H' d c n := by
  obtain ⟨cs, i, l, m, z, h1, h2, h3⟩ := h
  exact ⟨cs, i, l, m, z, s _ _ h1, s _ _ h2, h3⟩
abbrev s_law : Stmt := topS 25
abbrev N_law : List Str := ["script", "deck", "turn", "tree"]
theorem sc_law : FnScope N_law ["script"] (defScope s_law) := ⟨rfl, rfl, rfl, by decide +kernel, rfl, by decide +kernel, by decide +kernel⟩
section
variable {P : Program} {w : World} {K : PySem.W.Frag} {mg : Str → Option Value} {base : Heap} {C : Addr}
def spLaw (K : PySem.W.Frag) : Sp := fun vs H Q _ => ∃ (a : Addr) (ns : List Int), vs = [.ref a] ∧ SqL K H a (ns.map V.int) ∧ ns.length ≤ 63 ∧ ∀ H', Q (.bl true) H'
theorem ok_law {f : Addr} {fd : FuncData} (F : Fun K "law" "law" s_law f fd) (T : Txt mg) (C_law_deck : Cal P w K mg base 1 "_law_deck" (spDeck K)) (C_law_tree : Cal P w K mg base 5 "_law_tree" (spTree K))
    (Ctree_shown : Cal P w K mg base 1 "tree_shown" spShown) (Cread_tree : CalX P w K mg base 4 "read_tree" (spReadX C)) (C_law_otherwise_right : Cal P w K mg base 5 "_law_otherwise_right" spOther) (C_law_more_right : Cal P w K mg base 6 "_law_more_right" spMore) : FnOk P w K mg base CX0 7 f fd ["script"] (spLaw K) := by
  refine F.ok sc_law (fun vs H Q E h => ?_) (fun cdv A outer s H vs Q E hr h => ?_)
  · obtain ⟨a, ns, rfl, _⟩ := h
    rfl
  · obtain ⟨a, ns, rfl, hS, hl, q⟩ := h
    refine ⟨_, (pss_cons (ps_set (i := 1) sc_law.nd rfl (.inl rfl) (pe_c C_law_deck hr (by decide) rfl (pa_cons (pv 0) pa_nil)))
      (pss_cut (ps_for PassesOwn.never rfl (pi_range1 (by rfl) T.range (pa_cons pe_int pa_nil)) (pg_name (i := 2) sc_law.nd rfl (.inl rfl))
        (pss_cons (ps_set (i := 3) sc_law.nd rfl (.inl rfl) (pe_c C_law_tree hr (by decide) rfl (pa_cons (pv 1) (pa_cons pe_int pa_nil))))
        (pss_cut (ps_if (PW.pt (pw_or (pt_cmpR (op_neD (hd_of hr (by decide))) (pe_cX takes0 Cread_tree hr (by decide) rfl (pa_cons (pe_c Ctree_shown hr (by decide) rfl (pa_cons (pv 3) pa_nil)) pa_nil)) (pv 3) (nomark _)) (pw_or1 (pt_not (pt_val (pe_c C_law_otherwise_right hr (by decide) rfl (pa_cons (pv 1) (pa_cons (pv 3) pa_nil))))))))
          (pss_one (ps_ret pe_bl))
          pss_nil)
        (pss_one (ps_if (pt_not (pt_val (pe_c C_law_more_right hr (by decide) rfl (pa_cons (pv 1) (pa_cons (pv 3) pa_nil)))))
          (pss_one (ps_ret pe_bl))
          pss_nil)))))
      (pss_one (ps_ret pe_bl)))), ?_⟩
    refine ⟨_, rfl, a, ns, rfl, hS, hl, fun H1 d c S1 d0 D1 => ?_⟩
    refine ⟨fun σ' H' => True, ?_, fun σ' H' _ => q _⟩
    refine ⟨5, rfl, by decide, by decide, for_range (n := 5) (fun i σ' H' => (∃ x2 x3, σ' = [some (.ref a), some (.ref d), x2, x3]) ∧ DeckAt H' d c (3000 * i)) ⟨⟨_, _, rfl⟩, D1⟩ (fun i σ' H' hi hP => ?_) (fun σ' H' hP => trivial)⟩
    obtain ⟨⟨x2, x3, rfl⟩, D2⟩ := hP
    refine ⟨_, rfl, d, c, _, 30, rfl, D2, by omega, by decide, by decide, fun H2 t pl ts it ok pll hDt hZ S2 D3 => ?_⟩
    have fine : Fine pl ts := ⟨it, ok, by omega⟩
    have p30 : pl.length ≤ 30 := by omega
    refine ⟨fun σ' H' => σ' = [some (.ref a), some (.ref d), some (.int (0 + (i : Nat))), some (.ref t)] ∧ DeckAt H' d c (3000 * i + 1500) ∧ Dt H' (.ref t) (treeD pl ts), ?_, fun σ' H' hM => ?_⟩
    · refine ⟨_, rfl, .ref t, pl, ts, rfl, hDt, fine, fun H3 S3 => ?_⟩
      refine ⟨pl, ts, rfl, fine.shown, fun _ _ H4 t4 S4 _ h4 => ?_, fun _ cc => absurd cc (by have := fine.tree.len; omega), fun j e he r no => absurd (fine.tree.run j e (List.getElem?_eq_some_iff.mp he).1 he) no⟩
      have S24 := S3.trans S4
      have h2 := Dt.keep (TK.of S24) hDt
      refine ⟨_, rfl, _, _, Dt.dp h4, Dt.dp h2, fine.shaped, fine.shaped, ?_⟩
      rw [eqv_same fine.shaped]
      refine ⟨_, rfl, iteF ?_⟩
      have D4 := deck_at D3 S24
      refine ⟨_, rfl, _, rfl, d, c, _, .ref t, pl, ts, rfl, D4, by omega, h2, fine, p30, fun H5 S5 D5 => ?_⟩
      exact ⟨_, rfl, iteF ⟨rfl, D5.mono (by omega), Dt.keep (D4.tk S5) h2⟩⟩
    · obtain ⟨rfl, D4, h4⟩ := hM
      refine ⟨_, rfl, _, rfl, d, c, _, .ref t, pl, ts, rfl, D4, by omega, h4, fine, p30, fun H5 S5 D5 => ?_⟩
      exact ⟨_, rfl, iteF ⟨⟨_, _, rfl⟩, D5.mono (by omega)⟩⟩
end
end Far

namespace Far
open PySem PySem.Spec PyProof.Rows L2
theorem kit_own {K : PySem.W.Frag} {t : Value} {C : Addr} {b : Bool} {cd : ClassData} (ne : (t == Value.ref C) = false) (h1 : PySem.W.clsIn K C = some cd) (h2 : PySem.W.typeIn K (.ref C) = some (.type "type")) (h3 : PySem.W.subIn K t (.ref C) = some b) : PySem.W.kitOne K t (.ref C) = some b := by
  unfold PySem.W.kitOne PySem.W.kitCls
  rw [if_neg (by rw [ne]; decide)]
  show (if ((PySem.W.clsIn K C).isSome && PySem.W.typeIn K (.ref C) == some (.type "type")) = true then PySem.W.subIn K t (.ref C) else none) = some b
  rw [if_pos (by rw [h1, h2]; rfl)]
  exact h3
theorem kit_ve {K : PySem.W.Frag} {a : Addr} (h : PySem.W.subIn K (.ref a) (.type "ValueError") = some true) : PySem.W.kitOne K (.ref a) (.type "ValueError") = some true := by
  unfold PySem.W.kitOne PySem.W.kitCls
  rw [if_neg (by show ¬ (Value.ref a == Value.type "ValueError") = true; intro z; cases (eq_of_beq z))]
  show (if PySem.W.kitMeta "ValueError" = true then PySem.W.subIn K (.ref a) (.type "ValueError") else none) = some true
  rw [if_pos (by decide +kernel)]
  exact h
theorem exm_own {K : PySem.W.Frag} {t : Value} {C : Addr} {b : Bool} {cd : ClassData} (h0 : PySem.W.subIn K (.ref C) (.type "BaseException") = some true) (h1 : PySem.W.clsIn K C = some cd) (h2 : PySem.W.typeIn K (.ref C) = some (.type "type")) (h3 : PySem.W.subIn K t (.ref C) = some b) : PySem.W.exmOne K t (.ref C) = some b := by
  unfold PySem.W.exmOne PySem.W.kitCls
  rw [if_pos (by rw [h0]; rfl)]
  show (if ((PySem.W.clsIn K C).isSome && PySem.W.typeIn K (.ref C) == some (.type "type")) = true then PySem.W.subIn K t (.ref C) else none) = some b
  rw [if_pos (by rw [h1, h2]; rfl)]
  exact h3
theorem all_mk {l : PySem.W.OpenLaw} {w : World} {K : PySem.W.Frag} {h : Heap} {mg : Str → Option Value} {fa f1 f2 f3 f4 f5 f6 f7 f8 f9 f10 f11 f12 f13 f14 f15 f16 f17 f18 : Addr} (X : K.In h) (G : h.Ns mainGlobals mg) (hfa : mg "law" = some (.ref fa))
    {od1 od2 od3 od4 od5 od6 od7 od8 od9 od10 od11 od12 od13 od14 od15 od16 od17 od18 an1 an2 an3 an4 an5 an6 an7 an8 an9 an10 an11 an12 an13 an14 an15 an16 an17 an18 : Option Addr} {sl1 sl2 sl3 sl4 sl5 sl6 sl7 sl8 sl9 sl10 sl11 sl12 sl13 sl14 sl15 sl16 sl17 sl18 : Array (Option Value)} {oc1 oc2 oc3 oc4 oc5 oc6 oc7 oc8 oc9 oc10 oc11 oc12 oc13 oc14 oc15 oc16 oc17 oc18 kV1 kV2 kV3 kV4 kV5 kV6 kV7 kV8 kV9 kV10 kV11 kV12 kV13 kV14 kV15 kV16 kV17 kV18 dc1 dc2 dc3 dc4 dc5 dc6 dc7 dc8 dc9 dc10 dc11 dc12 dc13 dc14 dc15 dc16 dc17 dc18 pm1 pm2 pm3 pm4 pm5 pm6 pm7 pm8 pm9 pm10 pm11 pm12 pm13 pm14 pm15 pm16 pm17 pm18 cd1 cd2 cd3 cd4 cd5 cd6 cd7 cd8 cd9 cd10 cd11 cd12 cd13 cd14 cd15 cd16 cd17 cd18 ct1 ct2 ct3 ct4 ct5 ct6 ct7 ct8 ct9 ct10 ct11 ct12 ct13 ct14 ct15 ct16 ct17 ct18 : Value}
    {aT aF : Addr} {clT clF : ClassData} {fTI NT : Addr} {nmT qT : Str} {bsT bmT subT : List Value} {snT : List Str} {abT : Bool} {colT : Option Bool} {ddT odTI anTI : Option Addr} {jT0 jT1 jT2 jT3 jT5 : Option Value} {ocTI kVTI dcTI pmTI cdTI ctTI : Value} {slTI : Array (Option Value)}
    {tLETTERS tFIGURES tLONGEST_NAME : Tok}
    (a1 : PySem.W.nsIn K mainGlobals "_law_mix" = some (some (.ref f1))) (l1 : K.lookup f1 = some ⟨oc1, od1, .func (PySem.W.fnOf "_law_mix" "_law_mix" (defArgs s_law_mix) (defBody s_law_mix) (defScope s_law_mix) .none kV1 dc1 pm1 an1 cd1 ct1), sl1⟩) (c1 : PySem.W.codeIn K cd1 "_law_mix" = true) (k1 : PySem.W.keepIn K (.ref f1) = true)
    (a2 : PySem.W.nsIn K mainGlobals "_law_deck" = some (some (.ref f2))) (l2 : K.lookup f2 = some ⟨oc2, od2, .func (PySem.W.fnOf "_law_deck" "_law_deck" (defArgs s_law_deck) (defBody s_law_deck) (defScope s_law_deck) .none kV2 dc2 pm2 an2 cd2 ct2), sl2⟩) (c2 : PySem.W.codeIn K cd2 "_law_deck" = true) (k2 : PySem.W.keepIn K (.ref f2) = true)
    (a3 : PySem.W.nsIn K mainGlobals "_law_next" = some (some (.ref f3))) (l3 : K.lookup f3 = some ⟨oc3, od3, .func (PySem.W.fnOf "_law_next" "_law_next" (defArgs s_law_next) (defBody s_law_next) (defScope s_law_next) .none kV3 dc3 pm3 an3 cd3 ct3), sl3⟩) (c3 : PySem.W.codeIn K cd3 "_law_next" = true) (k3 : PySem.W.keepIn K (.ref f3) = true)
    (a4 : PySem.W.nsIn K mainGlobals "_law_name" = some (some (.ref f4))) (l4 : K.lookup f4 = some ⟨oc4, od4, .func (PySem.W.fnOf "_law_name" "_law_name" (defArgs s_law_name) (defBody s_law_name) (defScope s_law_name) .none kV4 dc4 pm4 an4 cd4 ct4), sl4⟩) (c4 : PySem.W.codeIn K cd4 "_law_name" = true) (k4 : PySem.W.keepIn K (.ref f4) = true)
    (a5 : PySem.W.nsIn K mainGlobals "_law_names" = some (some (.ref f5))) (l5 : K.lookup f5 = some ⟨oc5, od5, .func (PySem.W.fnOf "_law_names" "_law_names" (defArgs s_law_names) (defBody s_law_names) (defScope s_law_names) .none kV5 dc5 pm5 an5 cd5 ct5), sl5⟩) (c5 : PySem.W.codeIn K cd5 "_law_names" = true) (k5 : PySem.W.keepIn K (.ref f5) = true)
    (a6 : PySem.W.nsIn K mainGlobals "_law_tree" = some (some (.ref f6))) (l6 : K.lookup f6 = some ⟨oc6, od6, .func (PySem.W.fnOf "_law_tree" "_law_tree" (defArgs s_law_tree) (defBody s_law_tree) (defScope s_law_tree) .none kV6 dc6 pm6 an6 cd6 ct6), sl6⟩) (c6 : PySem.W.codeIn K cd6 "_law_tree" = true) (k6 : PySem.W.keepIn K (.ref f6) = true)
    (a7 : PySem.W.nsIn K mainGlobals "is_name" = some (some (.ref f7))) (l7 : K.lookup f7 = some ⟨oc7, od7, .func (PySem.W.fnOf "is_name" "is_name" (defArgs s_is_name) (defBody s_is_name) (defScope s_is_name) .none kV7 dc7 pm7 an7 cd7 ct7), sl7⟩) (c7 : PySem.W.codeIn K cd7 "is_name" = true) (k7 : PySem.W.keepIn K (.ref f7) = true)
    (a8 : PySem.W.nsIn K mainGlobals "is_length" = some (some (.ref f8))) (l8 : K.lookup f8 = some ⟨oc8, od8, .func (PySem.W.fnOf "is_length" "is_length" (defArgs s_is_length) (defBody s_is_length) (defScope s_is_length) .none kV8 dc8 pm8 an8 cd8 ct8), sl8⟩) (c8 : PySem.W.codeIn K cd8 "is_length" = true) (k8 : PySem.W.keepIn K (.ref f8) = true)
    (a9 : PySem.W.nsIn K mainGlobals "_read_places" = some (some (.ref f9))) (l9 : K.lookup f9 = some ⟨oc9, od9, .func (PySem.W.fnOf "_read_places" "_read_places" (defArgs s_read_places) (defBody s_read_places) (defScope s_read_places) .none kV9 dc9 pm9 an9 cd9 ct9), sl9⟩) (c9 : PySem.W.codeIn K cd9 "_read_places" = true) (k9 : PySem.W.keepIn K (.ref f9) = true)
    (a10 : PySem.W.nsIn K mainGlobals "_read_tie" = some (some (.ref f10))) (l10 : K.lookup f10 = some ⟨oc10, od10, .func (PySem.W.fnOf "_read_tie" "_read_tie" (defArgs s_read_tie) (defBody s_read_tie) (defScope s_read_tie) .none kV10 dc10 pm10 an10 cd10 ct10), sl10⟩) (c10 : PySem.W.codeIn K cd10 "_read_tie" = true) (k10 : PySem.W.keepIn K (.ref f10) = true)
    (a11 : PySem.W.nsIn K mainGlobals "_hang_together" = some (some (.ref f11))) (l11 : K.lookup f11 = some ⟨oc11, od11, .func (PySem.W.fnOf "_hang_together" "_hang_together" (defArgs s_hang_together) (defBody s_hang_together) (defScope s_hang_together) .none kV11 dc11 pm11 an11 cd11 ct11), sl11⟩) (c11 : PySem.W.codeIn K cd11 "_hang_together" = true) (k11 : PySem.W.keepIn K (.ref f11) = true)
    (a12 : PySem.W.nsIn K mainGlobals "read_tree" = some (some (.ref f12))) (l12 : K.lookup f12 = some ⟨oc12, od12, .func (PySem.W.fnOf "read_tree" "read_tree" (defArgs s_read_tree) (defBody s_read_tree) (defScope s_read_tree) .none kV12 dc12 pm12 an12 cd12 ct12), sl12⟩) (c12 : PySem.W.codeIn K cd12 "read_tree" = true) (k12 : PySem.W.keepIn K (.ref f12) = true)
    (a13 : PySem.W.nsIn K mainGlobals "tree_shown" = some (some (.ref f13))) (l13 : K.lookup f13 = some ⟨oc13, od13, .func (PySem.W.fnOf "tree_shown" "tree_shown" (defArgs s_tree_shown) (defBody s_tree_shown) (defScope s_tree_shown) .none kV13 dc13 pm13 an13 cd13 ct13), sl13⟩) (c13 : PySem.W.codeIn K cd13 "tree_shown" = true) (k13 : PySem.W.keepIn K (.ref f13) = true)
    (a14 : PySem.W.nsIn K mainGlobals "_law_row" = some (some (.ref f14))) (l14 : K.lookup f14 = some ⟨oc14, od14, .func (PySem.W.fnOf "_law_row" "_law_row" (defArgs s_law_row) (defBody s_law_row) (defScope s_law_row) .none kV14 dc14 pm14 an14 cd14 ct14), sl14⟩) (c14 : PySem.W.codeIn K cd14 "_law_row" = true) (k14 : PySem.W.keepIn K (.ref f14) = true)
    (a15 : PySem.W.nsIn K mainGlobals "_law_mixed" = some (some (.ref f15))) (l15 : K.lookup f15 = some ⟨oc15, od15, .func (PySem.W.fnOf "_law_mixed" "_law_mixed" (defArgs s_law_mixed) (defBody s_law_mixed) (defScope s_law_mixed) .none kV15 dc15 pm15 an15 cd15 ct15), sl15⟩) (c15 : PySem.W.codeIn K cd15 "_law_mixed" = true) (k15 : PySem.W.keepIn K (.ref f15) = true)
    (a16 : PySem.W.nsIn K mainGlobals "_law_otherwise_right" = some (some (.ref f16))) (l16 : K.lookup f16 = some ⟨oc16, od16, .func (PySem.W.fnOf "_law_otherwise_right" "_law_otherwise_right" (defArgs s_law_otherwise_right) (defBody s_law_otherwise_right) (defScope s_law_otherwise_right) .none kV16 dc16 pm16 an16 cd16 ct16), sl16⟩) (c16 : PySem.W.codeIn K cd16 "_law_otherwise_right" = true) (k16 : PySem.W.keepIn K (.ref f16) = true)
    (a17 : PySem.W.nsIn K mainGlobals "_law_more_right" = some (some (.ref f17))) (l17 : K.lookup f17 = some ⟨oc17, od17, .func (PySem.W.fnOf "_law_more_right" "_law_more_right" (defArgs s_law_more_right) (defBody s_law_more_right) (defScope s_law_more_right) .none kV17 dc17 pm17 an17 cd17 ct17), sl17⟩) (c17 : PySem.W.codeIn K cd17 "_law_more_right" = true) (k17 : PySem.W.keepIn K (.ref f17) = true)
    (a18 : PySem.W.nsIn K mainGlobals "law" = some (some (.ref f18))) (l18 : K.lookup f18 = some ⟨oc18, od18, .func (PySem.W.fnOf "law" "law" (defArgs s_law) (defBody s_law) (defScope s_law) .none kV18 dc18 pm18 an18 cd18 ct18), sl18⟩) (c18 : PySem.W.codeIn K cd18 "law" = true) (k18 : PySem.W.keepIn K (.ref f18) = true)
    (zLETTERS : PySem.W.nsIn K mainGlobals "LETTERS" = some (some (.str ("abcdefghijklmnopqrstuvwxyz" : Str) tLETTERS)))
    (zFIGURES : PySem.W.nsIn K mainGlobals "FIGURES" = some (some (.str ("0123456789" : Str) tFIGURES)))
    (zLONGEST_NAME : PySem.W.nsIn K mainGlobals "LONGEST_NAME" = some (some (.int 8 tLONGEST_NAME)))
    (zall : PySem.W.nsIn K mainGlobals "all" = some none)
    (zdict : PySem.W.nsIn K mainGlobals "dict" = some none)
    (zenumerate : PySem.W.nsIn K mainGlobals "enumerate" = some none)
    (zint : PySem.W.nsIn K mainGlobals "int" = some none)
    (zlen : PySem.W.nsIn K mainGlobals "len" = some none)
    (zlist : PySem.W.nsIn K mainGlobals "list" = some none)
    (zmax : PySem.W.nsIn K mainGlobals "max" = some none)
    (zrange : PySem.W.nsIn K mainGlobals "range" = some none)
    (zsum : PySem.W.nsIn K mainGlobals "sum" = some none)
    (ztuple : PySem.W.nsIn K mainGlobals "tuple" = some none)
    (zzip : PySem.W.nsIn K mainGlobals "zip" = some none)
    (gNoTree : PySem.W.nsIn K mainGlobals "NoTree" = some (some (.ref aT)))
    (cT : PySem.W.clsIn K aT = some clT)
    (yT : PySem.W.typeIn K (.ref aT) = some (.type "type"))
    (gFarError : PySem.W.nsIn K mainGlobals "FarError" = some (some (.ref aF)))
    (cF : PySem.W.clsIn K aF = some clF)
    (yF : PySem.W.typeIn K (.ref aF) = some (.type "type"))
    (bF : PySem.W.subIn K (.ref aF) (.type "BaseException") = some true)
    (hno : PySem.W.specialIn K (.builtin "object.__class__") "__get__" = some (some (.builtin "getset_descriptor.__get__")))
    (hto : PySem.W.takesIn K (.builtin "object.__class__") = some true)
    (exT : PySem.W.subIn K (.ref aT) (.type "BaseException") = some true)
    (sVT : PySem.W.subIn K (.ref aT) (.type "ValueError") = some true)
    (gaT : PySem.W.findIn K (.ref aT) "__getattribute__" = some (some (.builtin "BaseException.__getattribute__")))
    (ggT : PySem.W.findIn K (.ref aT) "__getattr__" = some none)
    (hdT : PySem.W.hasDictIn K aT = true)
    (haT : PySem.W.findIn K (.ref aT) "__class__" = some (some (.builtin "object.__class__")))
    (hmT : PySem.W.mroIn K aT (.type "object") = some true)
    (kT : PySem.W.keepIn K (.ref aT) = true)
    (sTF : PySem.W.subIn K (.ref aT) (.ref aF) = some true)
    (nTF : (Value.ref aT == Value.ref aF) = false)
    (lT : K.lookup aT = some (excClassObj nmT qT aT NT bsT bmT true snT subT abT colT ddT jT0 jT1 jT2 jT3 jT5 "ValueError.__new__"))
    (rT : PySem.HandSPX.refsVE bmT = true)
    (saT : PySem.W.findIn K (.ref aT) "__setattr__" = some (some (.builtin "object.__setattr__")))
    (iT : PySem.W.findIn K (.ref aT) "__init__" = some (some (.ref fTI)))
    (lTI : K.lookup fTI = some ⟨ocTI, odTI, .func (PySem.W.fnOf "__init__" "NoTree.__init__" (defArgs s_nt_init) (defBody s_nt_init) (defScope s_nt_init) .none kVTI dcTI pmTI anTI cdTI ctTI), slTI⟩)
    (cTI : PySem.W.codeIn K cdTI "NoTree.__init__" = true)
    (kTI : PySem.W.keepIn K (.ref fTI) = true)
    (tTI : PySem.W.typeIn K (.ref fTI) = some (.type "function"))
    (noT : PySem.W.findIn K (.ref aT) "row" = some none)
    (rdF : PySem.W.readsIn K aF (.type "type") = true)
    (gaF : PySem.W.specialIn K (.ref aF) "__getattribute__" = some (some (.builtin "type.__getattribute__")))
    (vF : PySem.W.findCls K (.ref aF) (.type "type") "__init__" = some (.val (.builtin "ValueError.__init__")))
    (sTT : PySem.W.subIn K (.ref aT) (.ref aT) = some true) :
    ∃ fd : FuncData, (∀ (s : Shared) (v : Value), BindsTo s fd ⟨[v], []⟩ [("script", v)]) ∧ ∀ base : Heap, K.In base → base.Ns mainGlobals mg → FnOk l.prog w K mg base CX0 7 fa fd ["script"] (spLaw K) := by
  have e := hfa.symm.trans (PySem.W.mg_of X G a18)
  cases e
  have F1 := fun_mk (st := s_law_mix) l1 c1 k1
  have b1 := F1.binds (ps := ["cell", "k"]) fun _ _ _ _ _ _ us hl => match us, hl with | [_, _], _ => rfl
  have F2 := fun_mk (st := s_law_deck) l2 c2 k2
  have b2 := F2.binds (ps := ["script"]) fun _ _ _ _ _ _ us hl => match us, hl with | [_], _ => rfl
  have F3 := fun_mk (st := s_law_next) l3 c3 k3
  have b3 := F3.binds (ps := ["deck", "many"]) fun _ _ _ _ _ _ us hl => match us, hl with | [_, _], _ => rfl
  have F4 := fun_mk (st := s_law_name) l4 c4 k4
  have b4 := F4.binds (ps := ["deck"]) fun _ _ _ _ _ _ us hl => match us, hl with | [_], _ => rfl
  have F5 := fun_mk (st := s_law_names) l5 c5 k5
  have b5 := F5.binds (ps := ["deck", "many"]) fun _ _ _ _ _ _ us hl => match us, hl with | [_, _], _ => rfl
  have F6 := fun_mk (st := s_law_tree) l6 c6 k6
  have b6 := F6.binds (ps := ["deck", "most"]) fun _ _ _ _ _ _ us hl => match us, hl with | [_, _], _ => rfl
  have F7 := fun_mk (st := s_is_name) l7 c7 k7
  have b7 := F7.binds (ps := ["word"]) fun _ _ _ _ _ _ us hl => match us, hl with | [_], _ => rfl
  have F8 := fun_mk (st := s_is_length) l8 c8 k8
  have b8 := F8.binds (ps := ["word"]) fun _ _ _ _ _ _ us hl => match us, hl with | [_], _ => rfl
  have F9 := fun_mk (st := s_read_places) l9 c9 k9
  have b9 := F9.binds (ps := ["row"]) fun _ _ _ _ _ _ us hl => match us, hl with | [_], _ => rfl
  have F10 := fun_mk (st := s_read_tie) l10 c10 k10
  have b10 := F10.binds (ps := ["row", "number", "parts"]) fun _ _ _ _ _ _ us hl => match us, hl with | [_, _, _], _ => rfl
  have F11 := fun_mk (st := s_hang_together) l11 c11 k11
  have b11 := F11.binds (ps := ["parts", "one", "other"]) fun _ _ _ _ _ _ us hl => match us, hl with | [_, _, _], _ => rfl
  have F12 := fun_mk (st := s_read_tree) l12 c12 k12
  have b12 := F12.binds (ps := ["text"]) fun _ _ _ _ _ _ us hl => match us, hl with | [_], _ => rfl
  have F13 := fun_mk (st := s_tree_shown) l13 c13 k13
  have b13 := F13.binds (ps := ["tree"]) fun _ _ _ _ _ _ us hl => match us, hl with | [_], _ => rfl
  have F14 := fun_mk (st := s_law_row) l14 c14 k14
  have b14 := F14.binds (ps := ["text"]) fun _ _ _ _ _ _ us hl => match us, hl with | [_], _ => rfl
  have F15 := fun_mk (st := s_law_mixed) l15 c15 k15
  have b15 := F15.binds (ps := ["deck", "things"]) fun _ _ _ _ _ _ us hl => match us, hl with | [_, _], _ => rfl
  have F16 := fun_mk (st := s_law_otherwise_right) l16 c16 k16
  have b16 := F16.binds (ps := ["deck", "tree"]) fun _ _ _ _ _ _ us hl => match us, hl with | [_, _], _ => rfl
  have F17 := fun_mk (st := s_law_more_right) l17 c17 k17
  have b17 := F17.binds (ps := ["deck", "tree"]) fun _ _ _ _ _ _ us hl => match us, hl with | [_, _], _ => rfl
  have F18 := fun_mk (st := s_law) l18 c18 k18
  have T0 : Txt mg := ⟨PySem.W.mg_none_of X G zlen, PySem.W.mg_none_of X G zsum, PySem.W.mg_none_of X G zrange, PySem.W.mg_none_of X G zint, PySem.W.mg_none_of X G zmax, PySem.W.mg_none_of X G zlist, PySem.W.mg_none_of X G ztuple⟩
  have TP : TxtP mg := ⟨PySem.W.mg_none_of X G zlen, PySem.W.mg_none_of X G zall, PySem.W.mg_none_of X G ztuple, PySem.W.mg_none_of X G zint, PySem.W.mg_none_of X G zlist, PySem.W.mg_none_of X G zenumerate, ⟨_, PySem.W.mg_of X G zLETTERS⟩, ⟨_, PySem.W.mg_of X G zFIGURES⟩, ⟨_, PySem.W.mg_of X G zLONGEST_NAME⟩⟩
  have TO : TxtO mg := ⟨PySem.W.mg_none_of X G zlen, PySem.W.mg_none_of X G ztuple, PySem.W.mg_none_of X G zdict, PySem.W.mg_none_of X G zzip⟩
  have ECT : ExcC K aT := ⟨gaT, ggT, exT, hdT, haT, hno, hto, hmT⟩
  have KTF := kit_own nTF cF yF sTF
  have KTV := kit_ve sVT
  have XT : PySem.W.exmOne K (.ref aT) (.ref aF) = some true := exm_own bF cF yF sTF
  have FIT := fun_mk (st := s_nt_init) lTI cTI kTI
  have bIT := FIT.binds (ps := ["self", "row"]) fun _ _ _ _ _ _ us hl => match us, hl with | [_, _], _ => rfl
  have NT : NtC K mg aT fTI aF := ⟨⟨⟨_, _, _, _, _, _, _, _, _, _, _, _, _, _, _, lT, rT⟩, saT, exT, yT, kT⟩, iT, tTI, ⟨gaT, ggT, exT, hdT⟩, ECT, noT, PySem.W.mg_of X G gNoTree, PySem.W.mg_of X G gFarError, rdF, gaF, vF⟩
  have XTT : PySem.W.exmOne K (.ref aT) (.ref aT) = some true := exm_own exT cT yT sTT
  have C_law_mix : ∀ base : Heap, Cal l.prog w K mg base 1 "_law_mix" spMix := fun base => ⟨f1, _, _, ok_mix F1, PySem.W.mg_of X G a1, k1, b1⟩
  have C_law_deck : ∀ base : Heap, Cal l.prog w K mg base 1 "_law_deck" (spDeck K) := fun base => ⟨f2, _, _, ok_deck F2 T0, PySem.W.mg_of X G a2, k2, b2⟩
  have C_law_next : ∀ base : Heap, Cal l.prog w K mg base 2 "_law_next" spNext := fun base => ⟨f3, _, _, ok_next F3 T0 (C_law_mix base), PySem.W.mg_of X G a3, k3, b3⟩
  have C_law_name : ∀ base : Heap, Cal l.prog w K mg base 3 "_law_name" spName := fun base => ⟨f4, _, _, ok_name F4 T0 (C_law_next base), PySem.W.mg_of X G a4, k4, b4⟩
  have C_law_names : ∀ base : Heap, Cal l.prog w K mg base 4 "_law_names" spNames := fun base => ⟨f5, _, _, ok_names F5 T0 (C_law_next base) (C_law_name base), PySem.W.mg_of X G a5, k5, b5⟩
  have C_law_tree : ∀ base : Heap, Cal l.prog w K mg base 5 "_law_tree" (spTree K) := fun base => ⟨f6, _, _, ok_tree F6 T0 (C_law_next base) (C_law_names base), PySem.W.mg_of X G a6, k6, b6⟩
  have Cis_name : ∀ base : Heap, Cal l.prog w K mg base 1 "is_name" spIsName := fun base => ⟨f7, _, _, ok_is_name F7 TP, PySem.W.mg_of X G a7, k7, b7⟩
  have Cis_length : ∀ base : Heap, Cal l.prog w K mg base 1 "is_length" spIsLen := fun base => ⟨f8, _, _, ok_is_length F8 TP, PySem.W.mg_of X G a8, k8, b8⟩
  have C_read_places : ∀ base : Heap, Cal l.prog w K mg base 2 "_read_places" spPlaces := fun base => ⟨f9, _, _, ok_read_places F9 TP (Cis_name base), PySem.W.mg_of X G a9, k9, b9⟩
  have C_read_tie : ∀ base : Heap, CalX l.prog w K mg base 3 "_read_tie" (spTieX aT) := fun base => ⟨⟨f10, _, _, ok_read_tie NT (ok_nt_init NT FIT) bIT F10 TP (Cis_length base), PySem.W.mg_of X G a10, k10, b10⟩⟩
  have C_hang_together : ∀ base : Heap, Cal l.prog w K mg base 1 "_hang_together" spHang := fun base => ⟨f11, _, _, ok_hang F11 TP, PySem.W.mg_of X G a11, k11, b11⟩
  have Cread_tree : ∀ base : Heap, CalX l.prog w K mg base 4 "read_tree" (spReadX aT) := fun base => ⟨⟨f12, _, _, ok_read_tree NT (ok_nt_init NT FIT) bIT F12 TP (C_read_places base) (C_read_tie base) (C_hang_together base), PySem.W.mg_of X G a12, k12, b12⟩⟩
  have Ctree_shown : ∀ base : Heap, Cal l.prog w K mg base 1 "tree_shown" spShown := fun base => ⟨f13, _, _, ok_tree_shown F13, PySem.W.mg_of X G a13, k13, b13⟩
  have C_law_row : ∀ base : Heap, Cal l.prog w K mg base 5 "_law_row" spRow := fun base => ⟨f14, _, _, ok_row NT XTT F14 (Cread_tree base), PySem.W.mg_of X G a14, k14, b14⟩
  have C_law_mixed : ∀ base : Heap, Cal l.prog w K mg base 3 "_law_mixed" spMixed := fun base => ⟨f15, _, _, ok_mixed F15 T0 (C_law_next base), PySem.W.mg_of X G a15, k15, b15⟩
  have C_law_otherwise_right : ∀ base : Heap, Cal l.prog w K mg base 5 "_law_otherwise_right" spOther := fun base => ⟨f16, _, _, ok_otherwise F16 TO (C_law_next base) (C_law_names base) (C_law_mixed base) (Ctree_shown base) (Cread_tree base), PySem.W.mg_of X G a16, k16, b16⟩
  have C_law_more_right : ∀ base : Heap, Cal l.prog w K mg base 6 "_law_more_right" spMore := fun base => ⟨f17, _, _, ok_more F17 TO (C_law_next base) (C_law_names base) (Ctree_shown base) (Cread_tree base) (C_law_row base), PySem.W.mg_of X G a17, k17, b17⟩
  exact ⟨_, fun s v => .of_eq rfl, fun base _ _ => ok_law F18 T0 (C_law_deck base) (C_law_tree base) (Ctree_shown base) (Cread_tree base) (C_law_otherwise_right base) (C_law_more_right base)⟩
end Far
open PySem PySem.W PyProof.Rows in
set_option maxRecDepth 100000 in
set_option maxHeartbeats 0 in
theorem PySem.Challenge.cw_farplaces_k03_whole_trees_holds : PySem.Challenge.rw_farplaces_k03_whole_trees.Holds := by
  w_on; o_law; k_head; (case hw => w_witness2)
  k_fill
  refine L2.walk_of (l := PySem.Challenge.rw_farplaces_k03_whole_trees) (n := 63) (k := 7) (x := "script") (CX := fun _ => L2.CX0) (sp := fun w => Far.spLaw _) rfl (by decide) rfl ⟨rfl, by decide, by decide⟩ (fun w h Y => PySem.W.kIn_of Y) ?F (fun _ _ a ns hl _ hS => ⟨a, ns, rfl, hS, hl, fun _ => rfl⟩) (fun _ _ _ _ _ h => h)
  case F =>
    intro w mg fa h KX G hmg
    refine' Far.all_mk KX G hmg ?a1 ?l1 ?c1 ?k1 ?a2 ?l2 ?c2 ?k2 ?a3 ?l3 ?c3 ?k3 ?a4 ?l4 ?c4 ?k4 ?a5 ?l5 ?c5 ?k5 ?a6 ?l6 ?c6 ?k6 ?a7 ?l7 ?c7 ?k7 ?a8 ?l8 ?c8 ?k8 ?a9 ?l9 ?c9 ?k9 ?a10 ?l10 ?c10 ?k10 ?a11 ?l11 ?c11 ?k11 ?a12 ?l12 ?c12 ?k12 ?a13 ?l13 ?c13 ?k13 ?a14 ?l14 ?c14 ?k14 ?a15 ?l15 ?c15 ?k15 ?a16 ?l16 ?c16 ?k16 ?a17 ?l17 ?c17 ?k17 ?a18 ?l18 ?c18 ?k18 ?zLETTERS ?zFIGURES ?zLONGEST_NAME ?zall ?zdict ?zenumerate ?zint ?zlen ?zlist ?zmax ?zrange ?zsum ?ztuple ?zzip ?gNoTree ?cT ?yT ?gFarError ?cF ?yF ?bF ?hno ?hto ?exT ?sVT ?gaT ?ggT ?hdT ?haT ?hmT ?kT ?sTF ?nTF ?lT ?rT ?saT ?iT ?lTI ?cTI ?kTI ?tTI ?noT ?rdF ?gaF ?vF ?sTT
    (case a1 => k_is); (case l1 => k_is); (case c1 => k_is); (case k1 => k_is); (case a2 => k_is); (case l2 => k_is); (case c2 => k_is); (case k2 => k_is); (case a3 => k_is); (case l3 => k_is); (case c3 => k_is); (case k3 => k_is); (case a4 => k_is); (case l4 => k_is); (case c4 => k_is); (case k4 => k_is); (case a5 => k_is); (case l5 => k_is); (case c5 => k_is); (case k5 => k_is); (case a6 => k_is); (case l6 => k_is); (case c6 => k_is); (case k6 => k_is); (case a7 => k_is); (case l7 => k_is); (case c7 => k_is); (case k7 => k_is); (case a8 => k_is); (case l8 => k_is); (case c8 => k_is); (case k8 => k_is); (case a9 => k_is); (case l9 => k_is); (case c9 => k_is); (case k9 => k_is); (case a10 => k_is); (case l10 => k_is); (case c10 => k_is); (case k10 => k_is); (case a11 => k_is); (case l11 => k_is); (case c11 => k_is); (case k11 => k_is); (case a12 => k_is); (case l12 => k_is); (case c12 => k_is); (case k12 => k_is); (case a13 => k_is); (case l13 => k_is); (case c13 => k_is); (case k13 => k_is); (case a14 => k_is); (case l14 => k_is); (case c14 => k_is); (case k14 => k_is); (case a15 => k_is); (case l15 => k_is); (case c15 => k_is); (case k15 => k_is); (case a16 => k_is); (case l16 => k_is); (case c16 => k_is); (case k16 => k_is); (case a17 => k_is); (case l17 => k_is); (case c17 => k_is); (case k17 => k_is); (case a18 => k_is); (case l18 => k_is); (case c18 => k_is); (case k18 => k_is); (case zLETTERS => k_is); (case zFIGURES => k_is); (case zLONGEST_NAME => k_is); (case zall => k_is); (case zdict => k_is); (case zenumerate => k_is); (case zint => k_is); (case zlen => k_is); (case zlist => k_is); (case zmax => k_is); (case zrange => k_is); (case zsum => k_is); (case ztuple => k_is); (case zzip => k_is); (case gNoTree => k_is); (case cT => k_is); (case yT => k_is); (case gFarError => k_is); (case cF => k_is); (case yF => k_is); (case bF => k_is); (case hno => k_is); (case hto => k_is); (case exT => k_is); (case sVT => k_is); (case gaT => k_is); (case ggT => k_is); (case hdT => k_is); (case haT => k_is); (case hmT => k_is); (case kT => k_is); (case sTF => k_is); (case nTF => rfl); (case lT => k_is); (case rT => rfl); (case saT => k_is); (case iT => k_is); (case lTI => k_is); (case cTI => k_is); (case kTI => k_is); (case tTI => k_is); (case noT => k_is); (case rdF => k_is); (case gaF => k_is); (case vF => k_is); (case sTT => k_is)

