import PyProof.Rows.All
import Wide.All
import OpenK.AllK
import Wide.FinOn
import HandS.ForMost
import HandS.Wide
import HandS.Codes
import HandS.Conv
import HandS.TupAny
import HandS.Style
import HandS.IsInst
import HandS.FStr
import HandS.DictComp
import HandS.NoneIn
import HandS.Strs
import KE.GoesEnum
import KE.GoesMore
import PyProof.EnumMake
import HandS.Zip
import HandS.List
import KE.KTupSum
import PyProof.WalkInts
import HandS.DeepEq
import HandS.SortInts
import HandS.Finally
import HandS.More
import KE.KEqDict
import HandS.ListItems
import PySem.Challenge.RW_farplaces_k17_whole_sums_together
set_option Elab.async false
set_option linter.all false
set_option maxRecDepth 100000
set_option maxHeartbeats 8000000
namespace Far
open PySem PySem.Spec PyProof.Rows L2
open C8 (pss_cut tCut)
open SX (S)
def topS (i : Nat) : Stmt := PySem.Challenge.pw_farplaces_k17_whole_sums_together.main.body.getD i (.Pass ⟨0, 0, 0, 0⟩)

theorem hd_of {A : Around} {k : Nat} (hr : Room k A) (h : 1 ≤ k) : A.units + 64 < cLine := by
  have := hr.units
  omega

/-- a def of the module that may be called by its name -/
structure Cal (P : Program) (w : World) (K : PySem.W.Frag) (mg : Str → Option Value) (base : Heap) (k : Nat) (x : Str) (sp : Sp) : Prop where
  ex : ∃ (f : Addr) (fd : FuncData) (ps : List Str), FnOk P w K mg base CX0 k f fd ps sp ∧ mg x = some (.ref f) ∧ PySem.W.keepIn K (.ref f) = true ∧ Binds K fd ps []
theorem pe_c {X : Cx} {k j : Nat} {x : Str} {sp : Sp} {p pos : Pos} {e : Expr} {es : List Expr} {t : TA} (c : Cal X.prog X.w X.K X.mg X.base k x sp) (hr : Room j X.A) (hk : k ≤ j) (hg : Gl X x) (ha : PA X (e :: es) t)
    (hdb : (x == ("__debug__" : Str)) = false := by decide) (he : starEach (e :: es) X.env = (false, eval e X.env) :: starEach es X.env := by rfl) (hpl : (backTo pos (starEach es X.env)).any (·.1) = false := by rfl) :
    PE X (.Call (.Name x p) (e :: es) [] pos) (tCall sp [] E0 t) := by
  obtain ⟨f, fd, ps, F, hm, kp, b⟩ := c.ex
  exact pe_call F (hr.mono hk) hg hm kp b .nil pass0 ha hdb he hpl

theorem bt_len : bootBuiltins ("len" : Str) = some (.builtin "len") := by decide +kernel
theorem bt_sum : bootBuiltins ("sum" : Str) = some (.builtin "sum") := by decide +kernel
theorem bt_max : bootBuiltins ("max" : Str) = some (.builtin "max") := by decide +kernel
theorem bt_all : bootBuiltins ("all" : Str) = some (.builtin "all") := by decide +kernel
theorem bt_isinstance : bootBuiltins ("isinstance" : Str) = some (.builtin "isinstance") := by decide +kernel
theorem bt_int : bootBuiltins ("int" : Str) = some (.type "int") := by decide +kernel
theorem bt_str : bootBuiltins ("str" : Str) = some (.type "str") := by decide +kernel
theorem bt_tuple : bootBuiltins ("tuple" : Str) = some (.type "tuple") := by decide +kernel
theorem bt_bool : bootBuiltins ("bool" : Str) = some (.type "bool") := by decide +kernel
theorem bt_list : bootBuiltins ("list" : Str) = some (.type "list") := by decide +kernel
/-- rules with the written part named, for use within a comprehension -/
def rLenV (K : PySem.W.Frag) : List V → Hp → VK → Prop := fun xs H Q => ∃ x n, xs = [x] ∧ LenV K x H n ∧ Q (.int n) H
theorem lenK {X : Cx} {K : PySem.W.Frag} (e : X.K = K := by rfl) : CallR X (.builtin "len") (rLenV K) := by
  subst e
  exact call_len
theorem ixl {X : Cx} {K : PySem.W.Frag} (e : X.K = K := by rfl) : IxR X (rIxL K) := by
  subst e
  exact ix_list
theorem ixt {X : Cx} {K : PySem.W.Frag} (e : X.K = K := by rfl) : IxR X (rIxT K) := by
  subst e
  exact ix_tup
/-- what the module's names hold that are built-ins, and its constants -/
structure Txt (mg : Str → Option Value) : Prop where
  len : mg "len" = none
  sum : mg "sum" = none
  range : mg "range" = none
  int : mg "int" = none
  max : mg "max" = none
  list : mg "list" = none
  tuple : mg "tuple" = none

/-- all that stood stands as it was, but for the one object -/
def SmX (d : Addr) (H H' : Hp) : Prop := ∀ b o, b ≠ d → H b = some o → H' b = some o
theorem SmX.refl {d : Addr} (H : Hp) : SmX d H H := fun _ _ _ h => h
theorem SmX.trans {d : Addr} {H H1 H2 : Hp} (a : SmX d H H1) (b : SmX d H1 H2) : SmX d H H2 := fun x o n h => b x o n (a x o n h)
theorem SmX.new {d : Addr} {H H1 : Hp} {p : Addr} {o : HO} (a : SmX d H H1) (n : H1 p = none) : SmX d H (upd H1 p o) := fun x u nx h => by
  rw [upd_ne (ne_of_none (a x u nx h) n)]
  exact a x u nx h
theorem SmX.mut {d : Addr} {H H1 : Hp} {o : HO} (a : SmX d H H1) : SmX d H (upd H1 d o) := fun x u nx h => by
  rw [upd_ne nx]
  exact a x u nx h
/-- an object that the first heap does not know may change -/
theorem SmX.put {d : Addr} {H H1 : Hp} {p : Addr} {o : HO} (a : SmX d H H1) (n : H p = none) : SmX d H (upd H1 p o) := fun x u nx h => by
  rw [upd_ne (ne_of_none h n)]
  exact a x u nx h

/-- the deck at d, its cells at c: at most n were mixed -/
def DeckAt (H : Hp) (d c : Addr) (n : Nat) : Prop := ∃ (cs : List Int) (i l m z : Int), H d = some (.lst [.ref c, .int i, .int l, .int m, .int z]) ∧ H c = some (.lst (cs.map V.int)) ∧ c ≠ d ∧ cs.length ≤ 63 ∧ 0 ≤ i ∧ i ≤ 63 ∧ 0 ≤ l ∧ 0 ≤ m ∧ m ≤ n
theorem DeckAt.new {H : Hp} {d c p : Addr} {o : HO} {n : Nat} (h : DeckAt H d c n) (np : H p = none) : DeckAt (upd H p o) d c n := by
  obtain ⟨cs, i, l, m, z, h1, h2, h3⟩ := h
  exact ⟨cs, i, l, m, z, by rw [upd_ne (ne_of_none h1 np)]; exact h1, by rw [upd_ne (ne_of_none h2 np)]; exact h2, h3⟩
theorem DeckAt.put {H : Hp} {d c p : Addr} {o : HO} {n : Nat} (h : DeckAt H d c n) (nd : p ≠ d) (nc : p ≠ c) : DeckAt (upd H p o) d c n := by
  obtain ⟨cs, i, l, m, z, h1, h2, h3⟩ := h
  exact ⟨cs, i, l, m, z, by rw [upd_ne nd.symm]; exact h1, by rw [upd_ne nc.symm]; exact h2, h3⟩
theorem DeckAt.nd {H : Hp} {d c p : Addr} {n : Nat} (h : DeckAt H d c n) (np : H p = none) : p ≠ d := fun e => by
  obtain ⟨_, _, _, _, _, h1, _⟩ := h
  rw [e, h1] at np
  cases np
theorem DeckAt.nc {H : Hp} {d c p : Addr} {n : Nat} (h : DeckAt H d c n) (np : H p = none) : p ≠ c := fun e => by
  obtain ⟨_, _, _, _, _, _, h2, _⟩ := h
  rw [e, h2] at np
  cases np
theorem DeckAt.mono {H : Hp} {d c : Addr} {n m : Nat} (h : DeckAt H d c n) (le : n ≤ m) : DeckAt H d c m := by
  obtain ⟨cs, i, l, m', z, h1, h2, h3, h4, h5, h6, h7, h8, h9⟩ := h
  exact ⟨cs, i, l, m', z, h1, h2, h3, h4, h5, h6, h7, h8, by omega⟩
theorem SmX.free {d : Addr} {H H' : Hp} {p : Addr} (a : SmX d H H') (n : H' p = none) (nd : p ≠ d) : H p = none := by
  cases q : H p with
  | none => rfl
  | some o =>
    rw [a p o nd q] at n
    cases n

/-- the signs of a name -/
def NameOk (l : List Nat) : Prop := 1 ≤ l.length ∧ l.length ≤ 8 ∧ ∀ c ∈ l, 97 ≤ c ∧ c ≤ 122
theorem sz_le {n : Nat} (h : n ≤ 100000) : n ≤ sizeLine := Nat.le_trans h (by decide)
theorem sz_lt {n : Nat} (h : n ≤ 100000) : n < sizeLine := Nat.lt_of_le_of_lt h (by decide)
theorem atI_in {α : Type} {xs : List α} {i : Int} (h0 : 0 ≤ i) (h1 : i < xs.length) : ∃ v, atI xs i = some v ∧ v ∈ xs := by
  have e : i = ((i.toNat : Nat) : Int) := by omega
  have l : i.toNat < xs.length := by omega
  refine ⟨xs[i.toNat], ?_, List.getElem_mem l⟩
  have q := atI_nat (List.getElem?_eq_getElem l)
  rwa [← e] at q
theorem S_of (z : Str) : ∃ l, z = S l := ⟨z.cps.toList, (SX.S_tl z).symm⟩
theorem join_none : ∀ ys : List (List Nat), TL.joinL [] ys = ys.flatten
  | [] => rfl
  | [x] => by simp [TL.joinL]
  | x :: y :: r => by
    have ih := join_none (y :: r)
    show x ++ ([] ++ TL.joinL [] (y :: r)) = x ++ (y :: r).flatten
    rw [ih]
    rfl
theorem flat_one (cs : List Nat) : (cs.map fun c => [c]).flatten = cs := by
  induction cs with
  | nil => rfl
  | cons c r ih => rw [List.map_cons, List.flatten_cons, ih]; rfl
theorem one_sum' (cs : List Nat) : ((cs.map fun c => S [c]).map (·.length)).sum = cs.length := by
  induction cs with
  | nil => rfl
  | cons c r ih =>
    rw [List.map_cons, List.map_cons, List.sum_cons, ih, List.length_cons, SX.S_len]
    show 1 + r.length = r.length + 1
    omega
theorem bt_min : bootBuiltins ("min" : Str) = some (.builtin "min") := by decide +kernel
theorem same_new {H H1 : Hp} {p : Addr} {o : HO} (a : Same H H1) (n : H1 p = none) : Same H (upd H1 p o) := fun x u h => by
  rw [upd_ne (ne_of_none (a x u h) n)]
  exact a x u h
theorem same_put {H H1 : Hp} {p : Addr} {o : HO} (a : Same H H1) (n : H p = none) : Same H (upd H1 p o) := fun x u h => by
  rw [upd_ne (ne_of_none h n)]
  exact a x u h
end Far

namespace Far
open PySem PySem.Spec PyProof.Rows L2
open C8 (pss_cut tCut)
open SX (S)
structure TxtG (mg : Str → Option Value) : Prop where
  len : mg "len" = none
  max : mg "max" = none
  min : mg "min" = none
  int : mg "int" = none
  range : mg "range" = none
  list : mg "list" = none
  tuple : mg "tuple" = none
/-- the seed at d, drawn from n times at most -/
def SeedAt (H : Hp) (d : Addr) (n : Nat) : Prop := ∃ a f k m : Int, H d = some (.lst [.int a, .int f, .int k, .int m]) ∧ 0 ≤ a ∧ 0 ≤ k ∧ k ≤ n ∧ 0 ≤ m ∧ m < 1999999913
theorem SeedAt.new {H : Hp} {d p : Addr} {o : HO} {n : Nat} (h : SeedAt H d n) (np : H p = none) : SeedAt (upd H p o) d n := by
  obtain ⟨a, f, k, m, h1, h2⟩ := h
  exact ⟨a, f, k, m, by rw [upd_ne (ne_of_none h1 np)]; exact h1, h2⟩
theorem SeedAt.put {H : Hp} {d p : Addr} {o : HO} {n : Nat} (h : SeedAt H d n) (nd : p ≠ d) : SeedAt (upd H p o) d n := by
  obtain ⟨a, f, k, m, h1, h2⟩ := h
  exact ⟨a, f, k, m, by rw [upd_ne nd.symm]; exact h1, h2⟩
theorem SeedAt.nd {H : Hp} {d p : Addr} {n : Nat} (h : SeedAt H d n) (np : H p = none) : p ≠ d := fun e => by
  obtain ⟨a, f, k, m, h1, _⟩ := h
  rw [e, h1] at np
  cases np
theorem SeedAt.mono {H : Hp} {d : Addr} {n m : Nat} (h : SeedAt H d n) (l : n ≤ m) : SeedAt H d m := by
  obtain ⟨a, f, k, z, h1, h2, h3, h4, h5⟩ := h
  exact ⟨a, f, k, z, h1, h2, h3, by omega, h5⟩
theorem SeedAt.lst {H : Hp} {d : Addr} {n : Nat} (h : SeedAt H d n) : ∃ xs, H d = some (.lst xs) := by
  obtain ⟨_, _, _, _, h1, _⟩ := h
  exact ⟨_, h1⟩
abbrev s_law_folded : Stmt := topS 18
abbrev N_law_folded : List Str := ["script", "found", "cell"]
theorem sc_law_folded : FnScope N_law_folded ["script"] (defScope s_law_folded) := ⟨rfl, rfl, rfl, by decide +kernel, rfl, by decide +kernel, by decide +kernel⟩
section
variable {P : Program} {w : World} {K : PySem.W.Frag} {mg : Str → Option Value} {base : Heap}
def spFolded (K : PySem.W.Frag) : Sp := fun vs H Q _ => ∃ (a : Addr) (ns : List Int), vs = [.ref a] ∧ SqL K H a (ns.map V.int) ∧ ns.length ≤ 63 ∧ ∀ r : Int, 0 ≤ r → Q (.int r) H
theorem ok_folded {f : Addr} {fd : FuncData} (F : Fun K "_law_folded" "_law_folded" s_law_folded f fd) (T : TxtG mg) : FnOk P w K mg base CX0 1 f fd ["script"] (spFolded K) := by
  refine F.ok sc_law_folded (fun vs H Q E h => ?_) (fun cdv A outer s H vs Q E hr h => ?_)
  · obtain ⟨a, ns, rfl, _⟩ := h
    rfl
  · obtain ⟨a, ns, rfl, hS, hl, q⟩ := h
    refine ⟨_, (pss_cons (ps_set (i := 1) sc_law_folded.nd rfl (.inl rfl) (pe_callB call_len_seq (by rfl) T.len bt_len (pa_cons (pv 0) pa_nil)))
      (pss_cut (ps_for PassesOwn.never rfl (pi_list (pv 0)) (pg_name (i := 2) sc_law_folded.nd rfl (.inl rfl))
        (pss_one (ps_set (i := 1) sc_law_folded.nd rfl (.inl rfl) (pe_op op_mod (pe_op op_add (pe_op op_mul (pv 1) pe_int) (pe_op op_mod (pv 2) pe_int)) pe_int))))
      (pss_one (ps_ret (pv 1))))), ?_⟩
    refine ⟨_, rfl, a, _, rfl, .inl hS, ?_⟩
    refine ⟨fun σ' H' => ∃ (r : Int) (x : Option V), σ' = [some (.ref a), some (.int r), x] ∧ 0 ≤ r ∧ H' = H, ?_, fun σ' H' hM => ?_⟩
    · refine ⟨_, rfl, a, rfl, ⟨_, hS⟩, for_list (K := K) (a := a) (xs := ns.map V.int) (fun i σ' H' => ∃ (r : Int) (x : Option V), σ' = [some (.ref a), some (.int r), x] ∧ 0 ≤ r ∧ r < 2147483647 ∧ H' = H) ⟨_, _, rfl, by omega, by rw [List.length_map]; omega, rfl⟩ (fun i σ' H' _ hP => ?_) (fun i v σ' H' hi hP => ?_) (fun σ' H' hP => ?_)⟩
      · obtain ⟨_, _, _, _, _, rfl⟩ := hP
        exact hS
      · obtain ⟨r, x, rfl, r0, r1, rfl⟩ := hP
        rw [List.getElem?_map] at hi
        cases e : ns[i]? with
        | none =>
          rw [e] at hi
          cases hi
        | some c =>
          rw [e] at hi
          have ev : v = .int c := (Option.some.inj hi).symm
          subst ev
          refine ⟨_, rfl, _, _, rfl, rfl, .inl ⟨by omega, by omega⟩, _, rfl, _, _, rfl, rfl, (by show (0 : Int) < _; decide), _, _, rfl, rfl, _, _, rfl, rfl, (by show (0 : Int) < _; decide), ?_⟩
          exact ⟨_, _, rfl, Int.emod_nonneg _ (by decide), Int.emod_lt_of_pos _ (by decide), rfl⟩
      · obtain ⟨r, x, rfl, r0, r1, rfl⟩ := hP
        exact ⟨r, x, rfl, r0, rfl⟩
    · obtain ⟨r, x, rfl, r0, rfl⟩ := hM
      exact ⟨_, rfl, q r r0⟩
end
abbrev s_law_seed : Stmt := topS 19
abbrev N_law_seed : List Str := ["cell", "number"]
theorem sc_law_seed : FnScope N_law_seed ["cell"] (defScope s_law_seed) := ⟨rfl, rfl, rfl, by decide +kernel, rfl, by decide +kernel, by decide +kernel⟩
section
variable {P : Program} {w : World} {K : PySem.W.Frag} {mg : Str → Option Value} {base : Heap}
def spSeed : Sp := fun vs H Q _ => ∃ c : Int, vs = [.int c] ∧ ∀ (H' : Hp) (d : Addr), Same H H' → H d = none → SeedAt H' d 0 → Q (.ref d) H'
theorem ok_seed {f : Addr} {fd : FuncData} (F : Fun K "_law_seed" "_law_seed" s_law_seed f fd) (T : TxtG mg) : FnOk P w K mg base CX0 1 f fd ["cell"] spSeed := by
  refine F.ok sc_law_seed (fun vs H Q E h => ?_) (fun cdv A outer s H vs Q E hr h => ?_)
  · obtain ⟨c, rfl, _⟩ := h
    rfl
  · obtain ⟨c, rfl, q⟩ := h
    refine ⟨_, (pss_cons (ps_set (i := 1) sc_law_seed.nd rfl (.inl rfl) (pe_callB (call_max2 rfl) (by rfl) T.max bt_max (pa_cons (pv 0) (pa_cons (pe_op op_sub pe_int (pv 0)) pa_nil))))
      (pss_one (ps_ret (pe_lst (pa_cons (pv 1) (pa_cons (pe_callTy call_int1 (by rfl) T.int bt_int (pa_cons (pe_cmpR op_ge (pv 1) (pe_op op_pow pe_int pe_int) (nomark _)) pa_nil)) (pa_cons pe_int (pa_cons (pe_op op_mod (pv 0) pe_int) pa_nil)))))))), ?_⟩
    refine ⟨_, rfl, _, rfl, _, _, rfl, rfl, _, _, rfl, ?_⟩
    refine ⟨_, rfl, _, rfl, _, _, rfl, rfl, ⟨by decide, by decide, by decide⟩, _, _, rfl, rfl, .inr ⟨_, rfl, ?_⟩⟩
    refine ⟨_, rfl, _, _, rfl, rfl, (by show (0 : Int) < _; decide), (by show 4 ≤ sizeLine; decide), fun d nd => ?_⟩
    refine q _ d (same_new (Same.refl H) nd) nd ⟨_, _, 0, c % 1999999913, upd_same, ?_, by omega, by omega, by omega, by omega⟩
    split <;> omega
end
abbrev s_law_draw : Stmt := topS 20
abbrev N_law_draw : List Str := ["seed", "most", "found", "number"]
theorem sc_law_draw : FnScope N_law_draw ["seed", "most"] (defScope s_law_draw) := ⟨rfl, rfl, rfl, by decide +kernel, rfl, by decide +kernel, by decide +kernel⟩
section
variable {P : Program} {w : World} {K : PySem.W.Frag} {mg : Str → Option Value} {base : Heap}
def spDraw : Sp := fun vs H Q _ => ∃ (d : Addr) (n : Nat) (many : Int), vs = [.ref d, .int many] ∧ SeedAt H d n ∧ n < 100000 ∧ 0 < many ∧ many < 2 ^ 60 ∧ ∀ (H' : Hp) (r : Int), 0 ≤ r → r < many → SmX d H H' → SeedAt H' d (n + 1) → Q (.int r) H'
theorem ok_draw {f : Addr} {fd : FuncData} (F : Fun K "_law_draw" "_law_draw" s_law_draw f fd) (T : TxtG mg) : FnOk P w K mg base CX0 1 f fd ["seed", "most"] spDraw := by
  refine F.ok sc_law_draw (fun vs H Q E h => ?_) (fun cdv A outer s H vs Q E hr h => ?_)
  · obtain ⟨d, n, many, rfl, _⟩ := h
    rfl
  · obtain ⟨d, n, many, rfl, ⟨a, g, k, m, h1, a0, k0, k1, m0, m1⟩, hn, hm0, hm1, q⟩ := h
    refine ⟨_, (pss_cons (ps_asg (pe_op op_add (pe_ix ix_list (pv 0) pe_int (fun _ _ => rfl)) pe_int) (pg_sub (pv 0) pe_int set_list))
      (pss_cut (ps_if (PW.pt (pw_and (pt_cmpR op_eq (pe_ix ix_list (pv 0) pe_int (fun _ _ => rfl)) pe_int (nomark _)) (pw_and1 (pt_cmpR op_gt (pe_ix ix_list (pv 0) pe_int (fun _ _ => rfl)) pe_int (nomark _)))))
        (pss_cons (ps_set (i := 2) sc_law_draw.nd rfl (.inl rfl) (pe_op op_mod (pe_ix ix_list (pv 0) pe_int (fun _ _ => rfl)) (pv 1)))
        (pss_cons (ps_asg (pe_op op_fdivW (pe_ix ix_list (pv 0) pe_int (fun _ _ => rfl)) (pv 1)) (pg_sub (pv 0) pe_int set_list))
        (pss_one (ps_ret (pv 2)))))
        pss_nil)
      (pss_cons (ps_set (i := 3) sc_law_draw.nd rfl (.inl rfl) (pe_op op_mod (pe_op op_mul (pe_op op_add (pe_op op_add (pe_ix ix_list (pv 0) pe_int (fun _ _ => rfl)) (pe_op op_mul pe_int (pe_ix ix_list (pv 0) pe_int (fun _ _ => rfl)))) pe_int) pe_int) pe_int))
      (pss_cons (ps_set (i := 3) sc_law_draw.nd rfl (.inl rfl) (pe_op op_mod (pe_op op_mul (pe_op op_mod (pe_op op_mul (pv 3) (pv 3)) pe_int) pe_int) pe_int))
      (pss_one (ps_ret (pe_op op_mod (pe_op op_fdiv (pv 3) pe_int) (pv 1)))))))), ?_⟩
    refine ⟨_, rfl, d, _, 2, _, rfl, rfl, SqL.of h1, rfl, k, 1, rfl, rfl, ?_⟩
    refine ⟨_, rfl, d, _, 2, 2, rfl, rfl, h1, rfl, ?_⟩
    have h2 : (upd H d (.lst [.int a, .int g, .int (k + 1), .int m])) d = some (.lst [.int a, .int g, .int (k + 1), .int m]) := upd_same
    have S1 : SmX d H (upd H d (.lst [.int a, .int g, .int (k + 1), .int m])) := (SmX.refl H).mut
    refine ⟨fun σ' H' => σ' = [some (.ref d), some (.int many), none, none] ∧ SmX d H H' ∧ H' d = some (.lst [.int a, .int g, .int (k + 1), .int m]), ?_, fun σ' H1 hM => ?_⟩
    · refine ⟨_, rfl, d, _, 1, _, rfl, rfl, SqL.of h2, rfl, rfl, _, rfl, ?_⟩
      refine ite2 (fun e => ?_) (fun e => ⟨rfl, S1, h2⟩)
      refine ⟨_, rfl, d, _, 0, _, rfl, rfl, SqL.of h2, rfl, _, _, rfl, rfl, _, rfl, ?_⟩
      refine ite2 (fun e => ?_) (fun e => ⟨rfl, S1, h2⟩)
      refine ⟨_, rfl, d, _, 0, _, rfl, rfl, SqL.of h2, rfl, _, rfl, _, _, rfl, rfl, hm0, ?_⟩
      refine ⟨_, rfl, d, _, 0, _, rfl, rfl, SqL.of h2, rfl, _, rfl, _, _, rfl, rfl, wide_div (b := 60) hm0 (by omega) (by decide) (by decide), ?_⟩
      refine ⟨_, rfl, d, _, 0, 0, rfl, rfl, h2, rfl, ?_⟩
      refine ⟨_, rfl, ?_⟩
      exact q _ _ (Int.emod_nonneg _ (by omega)) (Int.emod_lt_of_pos _ hm0) S1.mut ⟨a / many, g, k + 1, m, upd_same, Int.ediv_nonneg a0 (by omega), by omega, by omega, m0, m1⟩
    · obtain ⟨rfl, SM, h3⟩ := hM
      refine ⟨_, rfl, d, _, 3, _, rfl, rfl, SqL.of h3, rfl, _, rfl, d, _, 2, _, rfl, rfl, SqL.of h3, rfl, _, _, rfl, rfl, .inl ⟨by omega, by omega⟩, _, _, rfl, rfl, _, _, rfl, rfl, _, _, rfl, rfl, .inl ⟨by omega, by omega⟩, _, _, rfl, rfl, (by show (0 : Int) < _; decide), ?_⟩
      generalize hx : (m + 6997 * (k + 1) + 11) * 48271 % 2147483647 = x
      have x0 : 0 ≤ x := by omega
      have x1 : x < 2147483647 := by omega
      refine ⟨_, rfl, _, rfl, _, _, rfl, rfl, .inl ⟨by omega, by omega⟩, _, _, rfl, rfl, (by show (0 : Int) < _; decide), ?_⟩
      generalize hy : x * x % 2147483629 = y
      have y0 : 0 ≤ y := by omega
      have y1 : y < 2147483629 := by omega
      refine ⟨_, _, rfl, rfl, .inl ⟨by omega, by omega⟩, _, _, rfl, rfl, (by show (0 : Int) < _; decide), ?_⟩
      refine ⟨_, rfl, _, _, rfl, rfl, ⟨by decide, by decide⟩, _, rfl, _, _, rfl, rfl, hm0, ?_⟩
      exact q _ _ (Int.emod_nonneg _ (by omega)) (Int.emod_lt_of_pos _ hm0) SM ⟨a, g, k + 1, m, h3, a0, by omega, by omega, m0, m1⟩
end
abbrev s_law_length : Stmt := topS 22
abbrev N_law_length : List Str := ["seed", "kind"]
theorem sc_law_length : FnScope N_law_length ["seed", "kind"] (defScope s_law_length) := ⟨rfl, rfl, rfl, by decide +kernel, rfl, by decide +kernel, by decide +kernel⟩
section
variable {P : Program} {w : World} {K : PySem.W.Frag} {mg : Str → Option Value} {base : Heap}
def spLength : Sp := fun vs H Q _ => ∃ (d : Addr) (n : Nat) (kind : Int), vs = [.ref d, .int kind] ∧ SeedAt H d n ∧ n < 90000 ∧ 0 ≤ kind ∧ kind < 5 ∧ ∀ (H' : Hp) (r : Int), 1 ≤ r → r ≤ 1000000 → SmX d H H' → SeedAt H' d (n + 3) → Q (.int r) H'
theorem ok_length {f : Addr} {fd : FuncData} (F : Fun K "_law_length" "_law_length" s_law_length f fd) (C_law_draw : Cal P w K mg base 1 "_law_draw" spDraw) : FnOk P w K mg base CX0 2 f fd ["seed", "kind"] spLength := by
  refine F.ok sc_law_length (fun vs H Q E h => ?_) (fun cdv A outer s H vs Q E hr h => ?_)
  · obtain ⟨d, n, kind, rfl, _⟩ := h
    rfl
  · obtain ⟨d, n, kind, rfl, SD, hn, k0, k1, q⟩ := h
    refine ⟨_, (pss_one (ps_ret (pe_ix ix_list (pe_lst (pa_cons pe_int (pa_cons (pe_op op_add pe_int (pe_c C_law_draw hr (by decide) rfl (pa_cons (pv 0) (pa_cons pe_int pa_nil)))) (pa_cons (pe_op op_add pe_int (pe_c C_law_draw hr (by decide) rfl (pa_cons (pv 0) (pa_cons pe_int pa_nil)))) (pa_cons (pe_op op_add pe_int (pe_c C_law_draw hr (by decide) rfl (pa_cons (pv 0) (pa_cons (pe_op op_pow pe_int pe_int) pa_nil)))) (pa_cons pe_int pa_nil)))))) (pv 1) (fun _ _ => rfl)))), ?_⟩
    have e6 : (10 : Int) ^ (6 : Int).toNat = 1000000 := by decide
    refine ⟨_, rfl, d, n, 3, rfl, SD, by omega, by decide, by decide, fun H1 r1 a0 a1 S1 D1 => ⟨_, _, rfl, rfl, ?_⟩⟩
    refine ⟨_, rfl, d, _, 12, rfl, D1, by omega, by decide, by decide, fun H2 r2 b0 b1 S2 D2 => ⟨_, _, rfl, rfl, ?_⟩⟩
    refine ⟨_, rfl, _, _, rfl, rfl, ⟨by decide, by decide, by decide⟩, d, _, _, rfl, D2, by omega, by decide, by decide, fun H3 r3 c0 c1 S3 D3 => ⟨_, _, rfl, rfl, ?_⟩⟩
    refine ⟨(by show 5 ≤ sizeLine; decide), fun p np => ?_⟩
    obtain ⟨v, hv, mv⟩ := atI_in (xs := [V.int 1, .int (1 + r1), .int (1 + r2), .int (1 + r3), .int 2]) k0 (by simpa using k1)
    have hs : ∃ m : Int, v = .int m ∧ 1 ≤ m ∧ m ≤ 1000000 := by
      rw [e6] at c1
      simp only [List.mem_cons, List.not_mem_nil, or_false] at mv
      rcases mv with e | e | e | e | e
      · exact ⟨1, e, by omega, by omega⟩
      · exact ⟨_, e, by omega, by omega⟩
      · exact ⟨_, e, by omega, by omega⟩
      · exact ⟨_, e, by omega, by omega⟩
      · exact ⟨2, e, by omega, by omega⟩
    obtain ⟨m, rfl, m0, m1⟩ := hs
    refine ⟨_, rfl, p, _, kind, _, rfl, rfl, SqL.of upd_same, hv, ?_⟩
    exact q _ m m0 m1 (((S1.trans S2).trans S3).new np) (D3.new np)
end
end Far

namespace Far
open PySem PySem.Spec PyProof.Rows L2
/-! ### t[::-1], t a text -/
def revS (z : Str) : Str := ⟨z.cps.toList.reverse.toArray⟩
def tRevS (te : TE) : TE := fun σ H Q => te σ H fun x H1 => ∃ z, x = .str z ∧ z.length ≤ sizeLine ∧ Q (.str (revS z)) H1
theorem fm_congrS {α β : Type} {f g : α → Option β} : ∀ {l : List α}, (∀ x ∈ l, f x = g x) → l.filterMap f = l.filterMap g
  | [], _ => rfl
  | x :: r, h => by
    rw [List.filterMap_cons, List.filterMap_cons, h x (List.mem_cons_self ..), fm_congrS fun y hy => h y (List.mem_cons_of_mem _ hy)]
theorem back_allS {α : Type} : ∀ (l : List α), (List.range l.length).filterMap (fun m => l[l.length - 1 - m]?) = l.reverse := by
  intro l
  have h := PySem.W.krv_range l.length
  have e : (List.range l.length).filterMap (fun m => l[l.length - 1 - m]?) = ((List.range l.length).map fun k => l.length - 1 - k).filterMap (fun j => l[j]?) := by
    rw [List.filterMap_map]
    rfl
  rw [e, h, List.filterMap_reverse]
  congr 1
  have := PySem.W.krv_all l.toArray
  simpa using this
theorem revS_pick (z : Str) : (⟨((Builtin.Str.strSliceIndices none none (-1) z.length).filterMap (z.cps[·]?)).toArray⟩ : Str) = revS z := by
  unfold revS
  rw [picked_rev, List.filterMap_map, ← back_allS z.cps.toList]
  congr 2
  show _ = (List.range z.cps.toList.length).filterMap _
  rw [Array.length_toList]
  refine fm_congrS fun m hm => ?_
  rw [Array.getElem?_toList]
  rfl
theorem pe_revS {X : Cx} {e : Expr} {te : TE} {k : Nat} {p1 p2 p3 pos : Pos} (he : PE X e te) : PE X (.Subscript e (.Slice none none (some (.UnaryOp .USub (.Constant (.int 1) k p1) p2)) p3) pos) (tRevS te) := by
  refine ⟨fun pins s σ H Q I h => ?_⟩
  refine Subscript_ (thn (he.run pins s σ H _ I h) fun v s1 ⟨x, H1, I1, r1, q1⟩ => ?_)
  obtain ⟨z, ex, hz, q⟩ := q1
  subst ex
  obtain ⟨t, rfl⟩ := r1
  have hst : PO X (some (.UnaryOp .USub (.Constant (.int 1) k p1) p2)) (tPart (tUn (rU fun i => .int (-i)) (tC (.int 1)))) := po_some (pe_un un_neg pe_int)
  refine wpAny_Slice (thn (po_none.run pins s1 σ H1 (fun o H2 => o = none ∧ H2 = H1) I1 ⟨rfl, rfl⟩) fun vl s2 ⟨l, H2, I2, pl, el, e2⟩ => ?_)
  subst el e2
  refine thn (po_none.run pins s2 σ H2 (fun o H3 => o = none ∧ H3 = H2) I2 ⟨rfl, rfl⟩) fun vu s3 ⟨u, H3, I3, pu, eu, e3⟩ => ?_
  subst eu e3
  refine thn (hst.run pins s3 σ H3 (fun o H4 => o = some (-1) ∧ H4 = H3) I3 ⟨1, rfl, -1, rfl, rfl, rfl⟩) fun vs s4 ⟨o, H4, I4, ps, eo, e4⟩ => ?_
  subst eo e4
  have I5 : Inv X pins σ H4 { s4 with heap := s4.heap.push { cls := .type "slice", data := .fields #[vl, vu, vs] } } := I4.kept (t' := s4.toks) fun b ob q => Heap.get?_push_of_some _ q
  obtain ⟨l, rfl, hl⟩ := IsPart.raw pl
  obtain ⟨u, rfl, hu⟩ := IsPart.raw pu
  obtain ⟨y, rfl, hy⟩ := IsPart.raw ps
  show wpAny (model X.prog X.w) X.A (subscriptTail e (.Slice none none (some (.UnaryOp .USub (.Constant (.int 1) k p1) p2)) p3) (.str z t) (.ref s4.heap.objs.size)) (EP X pins σ Q) X.xe _
  refine tail_any (ops := [.str z t, .ref s4.heap.objs.size]) (typeIs_str _ _ _) (F.slot_str_getitem.lookup) ?_ (by with_unfolding_all rfl)
  have hl' : l = none := by cases l with
    | none => rfl
    | some _ => cases hl
  have hu' : u = none := by cases u with
    | none => rfl
    | some _ => cases hu
  obtain ⟨⟨y1, y2⟩, rfl⟩ : ∃ p, y = some p := by cases y with
    | none => cases hy
    | some p => exact ⟨p, rfl⟩
  have hy' : y1 = -1 := by
    have := Option.some.inj hy
    first | exact this | exact this.symm
  subst hl' hu' hy'
  refine wpAny_getItem_str_slice (l := none) (u := none) (st := some (-1, y2)) ⟨_, Heap.get?_push_size _ rfl, rfl, rfl⟩ rfl ?_
  show Made.post (if ((-1 : Int) == 1 && (Builtin.Str.strSliceIndices none none (-1) z.length).length == z.length) = true then Made.val (.str z t)
    else Made.str ⟨((Builtin.Str.strSliceIndices none none (-1) z.length).filterMap (z.cps[·]?)).toArray⟩) (EP X pins σ Q) _
  rw [if_neg (by simp), revS_pick]
  refine ⟨?_, .str _, H4, I5.tok _, ⟨_, rfl⟩, q⟩
  show z.cps.toList.reverse.toArray.size ≤ sizeLine
  rw [List.size_toArray, List.length_reverse, Array.length_toList]
  exact hz
end Far

namespace Far
open PySem PySem.Spec PyProof.Rows L2
open C8 (pss_cut tCut)
open SX (S)
/-! ### lists without an item twice -/
theorem nodup_sub_len {α : Type} [DecidableEq α] : ∀ (l m : List α), l.Nodup → (∀ x ∈ l, x ∈ m) → l.length ≤ m.length
  | [], _, _, _ => Nat.zero_le _
  | a :: r, m, h, hs => by
    obtain ⟨h1, h2⟩ := List.nodup_cons.mp h
    have ha : a ∈ m := hs a (List.mem_cons.mpr (.inl rfl))
    have ih := nodup_sub_len r (m.erase a) h2 fun x hx => by
      have ne : x ≠ a := fun e => h1 (e ▸ hx)
      exact (List.mem_erase_of_ne ne).mpr (hs x (List.mem_cons.mpr (.inr hx)))
    have hl := List.length_erase_of_mem ha
    have hp : 0 < m.length := List.length_pos_of_mem ha
    rw [List.length_cons]
    omega
theorem nd_snoc' {α : Type} {l : List α} {x : α} (h : l.Nodup) (hx : x ∉ l) : (l ++ [x]).Nodup := by
  rw [List.nodup_append]
  exact ⟨h, by simp, fun a ha b hb e => hx (by rw [← List.mem_singleton.mp hb, ← e]; exact ha)⟩

/-! ### texts as data -/
theorem strOk_S {l : List Nat} (h : NameOk l) : PyData.strOk (S l) = true := by
  show (l.toArray.all (· < 0x110000)) = true
  rw [← Array.all_toList, List.all_eq_true]
  intro c hc
  have := h.2.2 c hc
  exact decide_eq_true (by omega)
theorem inV_strs (l : List Nat) (ls : List (List Nat)) : inV (.str (S l)) ((ls.map S).map V.str) = decide (l ∈ ls) := by
  induction ls with
  | nil => rfl
  | cons a r ih =>
    show (S a == S l || inV (.str (S l)) ((r.map S).map V.str)) = _
    rw [ih, SX.S_beq_eq]
    by_cases e : a = l
    · subst e
      simp
    · have : l ≠ a := fun z => e z.symm
      simp [e, this]
theorem flat_strs (ls : List (List Nat)) : ((ls.map S).map V.str).all flatV = true := by
  induction ls with
  | nil => rfl
  | cons a r ih => exact ih
theorem strs_at {ls : List (List Nat)} {v : V} (h : v ∈ (ls.map S).map V.str) : ∃ l ∈ ls, v = .str (S l) := by
  obtain ⟨z, hz, rfl⟩ := List.mem_map.mp h
  obtain ⟨l, hl, rfl⟩ := List.mem_map.mp hz
  exact ⟨l, hl, rfl⟩
theorem dp_strs (K : PySem.W.Frag) (H : Hp) : ∀ ls : List (List Nat), DpAll K H ((ls.map S).map V.str) (ls.map fun l => PyData.str (S l))
  | [] => .nil
  | l :: r => .cons (.str _) (dp_strs K H r)
theorem lay_strs : ∀ {ls : List (List Nat)}, (∀ l ∈ ls, NameOk l) → PyData.canLayAll0 (ls.map fun l => PyData.str (S l)) = true
  | [], _ => rfl
  | l :: r, h => by
    show (PyData.strOk (S l) && PyData.canLayAll0 (r.map fun l => PyData.str (S l))) = true
    rw [strOk_S (h l (List.mem_cons.mpr (.inl rfl))), lay_strs fun x hx => h x (List.mem_cons.mpr (.inr hx))]
    rfl
theorem dep_strs : ∀ ls : List (List Nat), PyData.depthAll (ls.map fun l => PyData.str (S l)) = 0
  | [] => rfl
  | l :: r => by
    show max 0 (PyData.depthAll (r.map fun l => PyData.str (S l))) = 0
    rw [dep_strs r]
    rfl
theorem shaped_strs {ls : List (List Nat)} (h : ∀ l ∈ ls, NameOk l) : SeqAt.shaped (.list (ls.map fun l => PyData.str (S l))) = true := by
  show (PyData.canLayAll0 (ls.map fun l => PyData.str (S l)) && decide (PyData.depthAll (ls.map fun l => PyData.str (S l)) + 1 ≤ 64)) = true
  rw [lay_strs h, dep_strs]
  rfl

/-! ### names made otherwise -/
abbrev abc : Str := "abcdefghijklmnopqrstuvwxyz"
theorem abc_at : ∀ k : _root_.Fin 26, atI abc.cps.toList ((k.val : Nat) : Int) = some (97 + k.val) := by decide +kernel
theorem abc_ok : ∀ c ∈ abc.cps.toList, 97 ≤ c ∧ c ≤ 122 := by decide +kernel
theorem abc_len : abc.cps.toList.length = 26 := by decide +kernel
def cand (j : Nat) : List Nat := [97 + j / 26] ++ [97 + j % 26]
theorem cand_inj {i j : Nat} (h : cand i = cand j) : i = j := by
  unfold cand at h
  simp at h
  omega
theorem cand_ok {j : Nat} (hj : j < 600) : NameOk (cand j) := by
  refine ⟨by simp [cand], by simp [cand], fun c hc => ?_⟩
  unfold cand at hc
  simp at hc
  omega
/-- of the names tried so far all but the last are found already -/
structure Tried (ls : List (List Nat)) (t : Nat) (l : List Nat) : Prop where
  ok : NameOk l
  last : t ≠ 0 → l = cand (t - 1)
  old : ∀ j, j + 1 < t → cand j ∈ ls
theorem Tried.lt {ls : List (List Nat)} {t : Nat} {l : List Nat} (h : Tried ls t l) (hl : l ∈ ls) : t ≤ ls.length := by
  have sub : ∀ x ∈ (List.range t).map cand, x ∈ ls := fun x hx => by
    obtain ⟨j, hj, rfl⟩ := List.mem_map.mp hx
    have hj := List.mem_range.mp hj
    by_cases e : j + 1 < t
    · exact h.old j e
    · have e2 : j = t - 1 := by omega
      rw [e2, ← h.last (by omega)]
      exact hl
  have nd : ((List.range t).map cand).Nodup := by
    rw [List.Nodup, List.pairwise_map]
    exact (List.nodup_range (n := t)).imp fun ne e => ne (cand_inj e)
  have := nodup_sub_len _ ls nd sub
  rw [List.length_map, List.length_range] at this
  exact this
theorem Tried.next {ls : List (List Nat)} {t : Nat} {l : List Nat} (h : Tried ls t l) (hl : l ∈ ls) (h30 : ls.length < 100) : Tried ls (t + 1) (cand t) := by
  have hlt := h.lt hl
  refine ⟨cand_ok (by omega), fun _ => rfl, fun j hj => ?_⟩
  by_cases e : j + 1 < t
  · exact h.old j e
  · have e2 : j = t - 1 := by omega
    rw [e2, ← h.last (by omega)]
    exact hl
theorem revS_S (l : List Nat) : revS (S l) = S l.reverse := by
  show (⟨(l.toArray.toList.reverse).toArray⟩ : Str) = _
  rw [List.toList_toArray]
def NamesAt (H : Hp) (p : Addr) (ls : List (List Nat)) : Prop := H p = some (.lst ((ls.map S).map V.str))
end Far

namespace Far
open PySem PySem.Spec PyProof.Rows L2
open C8 (pss_cut tCut)
open SX (S)
abbrev s_law_name : Stmt := topS 21
abbrev N_law_name : List Str := ["seed", "names", "letters", "many", "name", "near", "at", "otherwise", "count", "k"]
theorem sc_law_name : FnScope N_law_name ["seed", "names"] (defScope s_law_name) := ⟨rfl, rfl, rfl, by decide +kernel, rfl, by decide +kernel, by decide +kernel⟩
section
variable {P : Program} {w : World} {K : PySem.W.Frag} {mg : Str → Option Value} {base : Heap}
def spName : Sp := fun vs H Q _ => ∃ (d a : Addr) (n : Nat) (ls : List (List Nat)), vs = [.ref d, .ref a] ∧ SeedAt H d n ∧ n < 80000 ∧ a ≠ d ∧ NamesAt H a ls ∧ ls.length < 100 ∧ (∀ l ∈ ls, NameOk l) ∧ ∀ (H' : Hp) (l : List Nat), NameOk l → l ∉ ls → SmX d H H' → SeedAt H' d (n + 20) → Q (.str (S l)) H'
theorem ok_name {f : Addr} {fd : FuncData} (F : Fun K "_law_name" "_law_name" s_law_name f fd) (T : TxtG mg) (C_law_draw : Cal P w K mg base 1 "_law_draw" spDraw) : FnOk P w K mg base CX0 2 f fd ["seed", "names"] spName := by
  refine F.ok sc_law_name (fun vs H Q E h => ?_) (fun cdv A outer s H vs Q E hr h => ?_)
  · obtain ⟨d, a, n, ls, rfl, _⟩ := h
    rfl
  · obtain ⟨d, a, n, ls, rfl, hD, hn, nad, hN, hl, ok, q⟩ := h
    refine ⟨_, (pss_cons (ps_set (i := 2) sc_law_name.nd rfl (.inr rfl) pe_str)
      (pss_cons (ps_set (i := 3) sc_law_name.nd rfl (.inl rfl) (pe_op op_add pe_int (pe_c C_law_draw hr (by decide) rfl (pa_cons (pv 0) (pa_cons (pe_ix ix_list (pe_lst (pa_cons pe_int (pa_cons pe_int (pa_cons pe_int pa_nil)))) (pe_c C_law_draw hr (by decide) rfl (pa_cons (pv 0) (pa_cons pe_int pa_nil))) (fun _ _ => rfl)) pa_nil)))))
      (pss_cons (ps_set (i := 4) sc_law_name.nd rfl (.inl rfl) (pe_join pe_str (pe_lc (own := [("k", 9)]) (g := gName 9) (tt := tYes) rfl sc_law_name.nd (pi_range1 (by rfl) T.range (pa_cons (pv 3) pa_nil)) (blkOk_by (N := N_law_name) (sc := defScope s_law_name) (by decide +kernel)) (fun _ _ _ _ _ => pg_name (i := 9) sc_law_name.nd rfl (Or.inl rfl)) (fun _ _ _ _ _ => pts_nil) (fun _ _ _ _ _ => (pe_ix ix_str (pv 2) (pe_c C_law_draw hr (by decide) rfl (pa_cons (pv 0) (pa_cons pe_int pa_nil))) (fun _ _ => rfl))))))
      (pss_cut (ps_if (PW.pt (pw_and (pt_cmpR (op_neD (hd_of hr (by decide))) (pv 1) (pe_lst pa_nil) (nomark _)) (pw_and1 (pt_cmpR op_eq (pe_c C_law_draw hr (by decide) rfl (pa_cons (pv 0) (pa_cons pe_int pa_nil))) pe_int (nomark _)))))
        (pss_cons (ps_set (i := 5) sc_law_name.nd rfl (.inl rfl) (pe_ix ix_list (pv 1) (pe_c C_law_draw hr (by decide) rfl (pa_cons (pv 0) (pa_cons (pe_callB call_len_seq (by rfl) T.len bt_len (pa_cons (pv 1) pa_nil)) pa_nil))) (fun _ _ => rfl)))
        (pss_cons (ps_set (i := 6) sc_law_name.nd rfl (.inl rfl) (pe_c C_law_draw hr (by decide) rfl (pa_cons (pv 0) (pa_cons (pe_callB call_len (by rfl) T.len bt_len (pa_cons (pv 5) pa_nil)) pa_nil))))
        (pss_cons (ps_set (i := 7) sc_law_name.nd rfl (.inl rfl) (pe_op op_add_str (pe_op op_add_str (pe_slice C8.sl_txt (pv 5) po_none (po_some (pv 6))) (pe_ix ix_str (pv 2) (pe_c C_law_draw hr (by decide) rfl (pa_cons (pv 0) (pa_cons pe_int pa_nil))) (fun _ _ => rfl))) (pe_slice C8.sl_txt (pv 5) (po_some (pe_op op_add (pv 6) pe_int)) po_none)))
        (pss_one (ps_set (i := 4) sc_law_name.nd rfl (.inl rfl) (pe_ix ix_list (pe_lst (pa_cons (pv 7) (pa_cons (pe_revS (pv 5)) (pa_cons (pe_slice C8.sl_txt (pe_op op_add_str (pv 5) (pv 4)) po_none (po_some pe_int)) pa_nil)))) (pe_c C_law_draw hr (by decide) rfl (pa_cons (pv 0) (pa_cons pe_int pa_nil))) (fun _ _ => rfl)))))))
        pss_nil)
      (pss_cons (ps_set (i := 8) sc_law_name.nd rfl (.inl rfl) pe_int)
      (pss_cut (ps_while PassesOwn.never (pt_cmpR op_in_seq (pv 4) (pv 1) rfl)
        (pss_cons (ps_set (i := 4) sc_law_name.nd rfl (.inl rfl) (pe_op op_add_str (pe_ix ix_str (pv 2) (pe_op op_fdiv (pv 8) pe_int) (fun _ _ => rfl)) (pe_ix ix_str (pv 2) (pe_op op_mod (pv 8) pe_int) (fun _ _ => rfl))))
        (pss_one (ps_set (i := 8) sc_law_name.nd rfl (.inl rfl) (pe_op op_add (pv 8) pe_int)))))
      (pss_one (ps_ret (pv 4))))))))), ?_⟩
    -- many
    refine ⟨_, rfl, (by show 3 ≤ sizeLine; decide), fun p np => ?_⟩
    have npd : p ≠ d := hD.nd np
    refine ⟨_, rfl, d, n, 3, rfl, hD.new np, by omega, by decide, by decide, fun H1 r r0 r1 S1 D1 => ?_⟩
    have hp : H1 p = some (.lst [.int 1, .int 2, .int 8]) := S1 p _ npd upd_same
    obtain ⟨v, hv, mv⟩ := atI_in (xs := [V.int 1, .int 2, .int 8]) r0 (by simpa using r1)
    have hs : ∃ sz : Int, v = .int sz ∧ 1 ≤ sz ∧ sz ≤ 8 := by
      simp only [List.mem_cons, List.not_mem_nil, or_false] at mv
      rcases mv with e | e | e <;> exact ⟨_, e, by omega, by omega⟩
    obtain ⟨sz, rfl, s1, s8⟩ := hs
    refine ⟨p, _, r, _, rfl, rfl, SqL.of hp, hv, ?_⟩
    have S01 : SmX d H H1 := fun b o nb hb => S1 b o nb (by rw [upd_ne (ne_of_none hb np)]; exact hb)
    refine ⟨d, n + 1, sz, rfl, D1, by omega, by omega, by omega, fun H2 r2 a0 a1 S2 D2 => ⟨_, _, rfl, rfl, ?_⟩⟩
    have S02 := S01.trans S2
    -- name
    refine ⟨⟨_, rfl⟩, _, rfl, 1 + r2, rfl, by omega, by omega, fun D nD => ?_⟩
    have nDd : D ≠ d := D2.nd nD
    refine lc_range (lo := 0) (n := (1 + r2).toNat) (fun i H' => ∃ cs : List Nat, cs.length = i ∧ (∀ c ∈ cs, 97 ≤ c ∧ c ≤ 122) ∧ H' D = some (.lst ((cs.map fun c => S [c]).map V.str)) ∧ SmX d H H' ∧ SeedAt H' d (n + 2 + i)) ⟨[], rfl, by simp, upd_same, S02.new nD, D2.new nD⟩ (fun i H' hi hP => ?_) (fun H' hP => ?_)
    · obtain ⟨cs, hlc, hc, hD', SM, DD⟩ := hP
      refine ⟨rfl, _, rfl, _, rfl, d, _, 26, rfl, DD, by omega, by decide, by decide, fun H4 r4 r40 r41 S4 D4 => ?_⟩
      obtain ⟨v, hv, mv⟩ := atI_in (xs := abc.cps.toList) r40 (by rw [abc_len]; exact r41)
      refine ⟨abc, r4, v, rfl, rfl, by decide, hv, ?_⟩
      refine ⟨_, S4 D _ nDd hD', by rw [List.length_map, List.length_map]; exact sz_lt (by omega), cs ++ [v], by simp [hlc], fun c hc' => ?_, ?_, (SM.trans S4).put ?_, ?_⟩
      · rcases List.mem_append.mp hc' with z | z
        · exact hc c z
        · rw [List.mem_singleton.mp z]
          exact abc_ok v mv
      · rw [upd_same, List.map_append, List.map_append]
        rfl
      · exact SmX.free S02 nD nDd
      · exact D4.put nDd
    · obtain ⟨cs, hlc, hc, hD', SM, DD⟩ := hP
      refine ⟨_, D, cs.map (fun c => S [c]), rfl, rfl, .inl (SqL.of hD'), ?_, ?_⟩
      · rw [one_sum']
        have : ((("" : Str)).length) = 0 := rfl
        rw [this, List.length_map]
        omega
      · have e : Txt.join ("" : Str) (cs.map fun c => S [c]) = S cs := by
          have := SX.join_S [] (cs.map fun c => [c])
          rw [List.map_map] at this
          rw [join_none, flat_one] at this
          exact this
        rw [e]
        have cok : NameOk cs := ⟨by omega, by omega, hc⟩
        have DD := DD.mono (m := n + 10) (by omega)
        clear hlc hD'
        -- the if
        refine ⟨fun σ1 H1 => ∃ (l : List Nat) (x5 x6 x7 : Option V), σ1 = [some (.ref d), some (.ref a), some (.str abc), some (.int (1 + r2)), some (.str (S l)), x5, x6, x7, none, none] ∧ NameOk l ∧ SmX d H H1 ∧ SeedAt H1 d (n + 20), ?_, fun σ1 H1 hM => ?_⟩
        · have hN1 : NamesAt H' a ls := SM a _ nad hN
          refine ⟨_, rfl, Nat.zero_le _, fun p2 np2 => ?_⟩
          have hN2 : NamesAt (upd H' p2 (.lst [])) a ls := by
            unfold NamesAt
            rw [upd_ne (ne_of_none hN1 np2)]
            exact hN1
          have D2 := DD.new (o := .lst []) np2
          have SM2 : SmX d H (upd H' p2 (.lst [])) := SM.new np2
          refine ⟨_, _, .lst (SqL.of hN2) (dp_strs _ _ ls), .lst (SqL.of upd_same) .nil, shaped_strs ok, rfl, _, rfl, ?_⟩
          refine ite2 (fun e1 => ?_) (fun e1 => ?_)
          · have pos : 0 < ls.length := by
              cases ls with
              | nil => exact absurd e1 (by decide)
              | cons a r => exact Nat.succ_pos _
            refine ⟨_, rfl, d, _, 3, rfl, D2, by omega, by decide, by decide, fun H3 r r0 r1 S3 D3 => ?_⟩
            have hN3 : NamesAt H3 a ls := S3 a _ nad hN2
            have SM3 : SmX d H H3 := SM2.trans S3
            refine ⟨rfl, _, rfl, ite2 (fun e2 => ?_) (fun e2 => ?_)⟩
            · -- near
              refine ⟨_, rfl, _, rfl, _, rfl, a, _, rfl, .inl (SqL.of hN3), d, _, _, rfl, D3, by omega, ?_, ?_, fun H4 r4 r40 r41 S4 D4 => ?_⟩
              · rw [List.length_map, List.length_map]
                omega
              · rw [List.length_map, List.length_map]
                omega
              have hN4 : NamesAt H4 a ls := S4 a _ nad hN3
              obtain ⟨v, hv, mv⟩ := atI_in r40 r41
              obtain ⟨l2, hl2, rfl⟩ := strs_at mv
              have ok2 := ok l2 hl2
              have h8 := ok2.2.1
              have h1 := ok2.1
              have c8 := cok.2.1
              refine ⟨a, _, r4, _, rfl, rfl, SqL.of hN4, hv, ?_⟩
              -- at
              refine ⟨_, rfl, _, rfl, .str (S l2), l2.length, rfl, ⟨by rw [SX.S_len]; exact sz_le (by omega), (SX.S_len _).symm⟩, d, _, _, rfl, D4, by omega, by omega, by omega, fun H5 r5 r50 r51 S5 D5 => ?_⟩
              -- otherwise
              refine ⟨_, rfl, _, rfl, r5, rfl, S l2, rfl, by rw [SX.S_len]; exact sz_le (by omega), ?_⟩
              refine ⟨_, rfl, _, rfl, d, _, 26, rfl, D5, by omega, by decide, by decide, fun H6 r6 r60 r61 S6 D6 => ?_⟩
              obtain ⟨sg, hsg, msg⟩ := atI_in (xs := abc.cps.toList) r60 (by rw [abc_len]; exact r61)
              have oks := abc_ok sg msg
              refine ⟨abc, r6, sg, rfl, rfl, by decide, hsg, ?_⟩
              have SM6 : SmX d H H6 := ((SM3.trans S4).trans S5).trans S6
              refine ⟨S (l2.take r5.toNat), S [sg], congrArg V.str (SX.slice_to r50), rfl, by rw [SX.S_len, SX.S_len, List.length_take, List.length_singleton]; exact sz_le (by omega), ?_⟩
              refine ⟨_, rfl, _, rfl, r5, 1, rfl, rfl, r5 + 1, rfl, S l2, rfl, by rw [SX.S_len]; exact sz_le (by omega), S (l2.take r5.toNat ++ [sg]), S (l2.drop (r5 + 1).toNat), congrArg V.str (SX.S_cat _ _), congrArg V.str (SX.slice_from (by omega)), by rw [SX.S_len, SX.S_len, List.length_append, List.length_take, List.length_drop, List.length_singleton]; exact sz_le (by omega), ?_⟩
              -- the three
              refine ⟨_, rfl, _, rfl, S l2, rfl, by rw [SX.S_len]; exact sz_le (by omega), ?_⟩
              refine ⟨_, rfl, _, rfl, S l2, S cs, rfl, rfl, by rw [SX.S_len, SX.S_len]; exact sz_le (by omega), 8, rfl, S (l2 ++ cs), congrArg V.str (SX.S_cat _ _), by rw [SX.S_len, List.length_append]; exact sz_le (by omega), by show 3 ≤ sizeLine; decide, fun p7 np7 => ?_⟩
              have np7d := D6.nd np7
              have D6' := D6.new (o := .lst [V.str (S (l2.take r5.toNat ++ [sg]) ++ S (l2.drop (r5 + 1).toNat)), .str (revS (S l2)), .str (Txt.slice (S (l2 ++ cs)) none (some 8))]) np7
              refine ⟨_, rfl, d, _, 3, rfl, D6', by omega, by decide, by decide, fun H7 r7 r70 r71 S7 D7 => ?_⟩
              have h7 := S7 p7 _ np7d upd_same
              have SM7 : SmX d H H7 := (SM6.new np7).trans S7
              obtain ⟨v, hv, mv⟩ := atI_in (xs := [V.str (S (l2.take r5.toNat ++ [sg]) ++ S (l2.drop (r5 + 1).toNat)), .str (revS (S l2)), .str (Txt.slice (S (l2 ++ cs)) none (some 8))]) r70 (by simpa using r71)
              have hs : ∃ l3 : List Nat, v = .str (S l3) ∧ NameOk l3 := by
                simp only [List.mem_cons, List.not_mem_nil, or_false] at mv
                rcases mv with e | e | e
                · refine ⟨l2.take r5.toNat ++ [sg] ++ l2.drop (r5 + 1).toNat, by rw [e, SX.S_cat], ?_, ?_, fun x hx => ?_⟩
                  · simp
                    omega
                  · simp
                    omega
                  · rcases List.mem_append.mp hx with z | z
                    · rcases List.mem_append.mp z with z | z
                      · exact ok2.2.2 x (List.mem_of_mem_take z)
                      · rw [List.mem_singleton.mp z]
                        exact oks
                    · exact ok2.2.2 x (List.mem_of_mem_drop z)
                · refine ⟨l2.reverse, by rw [e, revS_S], ?_, ?_, fun x hx => ok2.2.2 x (List.mem_reverse.mp hx)⟩
                  · rw [List.length_reverse]
                    omega
                  · rw [List.length_reverse]
                    omega
                · refine ⟨(l2 ++ cs).take 8, by rw [e, SX.slice_to (by decide)]; rfl, ?_, ?_, fun x hx => ?_⟩
                  · rw [List.length_take, List.length_append]
                    omega
                  · rw [List.length_take]
                    omega
                  · rcases List.mem_append.mp (List.mem_of_mem_take hx) with z | z
                    · exact ok2.2.2 x z
                    · exact hc x z
              obtain ⟨l3, rfl, ok3⟩ := hs
              refine ⟨p7, _, r7, _, rfl, rfl, SqL.of h7, hv, ?_⟩
              exact ⟨l3, _, _, _, rfl, ok3, SM7, D7.mono (by omega)⟩
            · exact ⟨cs, _, _, _, rfl, cok, SM3, D3.mono (by omega)⟩
          · exact ⟨cs, _, _, _, rfl, cok, SM2, D2.mono (by omega)⟩
        · -- the loop
          obtain ⟨l, x5, x6, x7, rfl, lok, SM1, DD1⟩ := hM
          have hN1 : NamesAt H1 a ls := SM1 a _ nad hN
          refine ⟨fun σ2 H2 => ∃ (l : List Nat) (x8 : Option V), σ2 = [some (.ref d), some (.ref a), some (.str abc), some (.int (1 + r2)), some (.str (S l)), x5, x6, x7, x8, none] ∧ NameOk l ∧ l ∉ ls ∧ H2 = H1, ?_, fun σ2 H2 hM => ?_⟩
          · refine ⟨fun m σ2 H2 => ∃ (l : List Nat) (t : Nat), σ2 = [some (.ref d), some (.ref a), some (.str abc), some (.int (1 + r2)), some (.str (S l)), x5, x6, x7, some (.int t), none] ∧ H2 = H1 ∧ Tried ls t l ∧ t + m = 200, ⟨200, l, 0, rfl, rfl, ⟨lok, fun z => absurd rfl z, fun j hj => absurd hj (by omega)⟩, rfl⟩, ?_⟩
            rintro m' σ2 H4 ⟨l, t, rfl, rfl, tr, em⟩
            refine ⟨_, rfl, _, rfl, a, _, rfl, .inl (SqL.of hN1), rfl, flat_strs ls, _, rfl, ?_⟩
            rw [inV_strs]
            refine ite2 (fun e2 => ?_) (fun e2 => ?_)
            · have hin : l ∈ ls := of_decide_eq_true e2
              have tl := tr.lt hin
              have nx := tr.next hin (by omega)
              refine ⟨fun σ' H'' => ∃ (l : List Nat) (t' : Nat), σ' = [some (.ref d), some (.ref a), some (.str abc), some (.int (1 + r2)), some (.str (S l)), x5, x6, x7, some (.int t'), none] ∧ H'' = H4 ∧ Tried ls t' l ∧ t' = t + 1, ?_, ?_⟩
              · rintro σ' H'' ⟨l', t', e1, e2', e3, e4⟩
                exact ⟨m' - 1, by omega, l', t', e1, e2', e3, by omega⟩
              have et : (t : Int) / 26 = (((t / 26 : Nat)) : Int) := by omega
              have em' : (t : Int) % 26 = (((t % 26 : Nat)) : Int) := by omega
              have a1 : atI abc.cps.toList ((t : Int) / 26) = some (97 + t / 26) := by
                rw [et]
                exact abc_at ⟨t / 26, by omega⟩
              have a2 : atI abc.cps.toList ((t : Int) % 26) = some (97 + t % 26) := by
                rw [em']
                exact abc_at ⟨t % 26, by omega⟩
              refine ⟨_, rfl, _, rfl, _, _, rfl, rfl, ⟨by decide, by decide⟩, abc, (t : Int) / 26, _, rfl, rfl, by decide, a1, ?_⟩
              refine ⟨_, rfl, _, rfl, _, _, rfl, rfl, (by show (0 : Int) < _; decide), abc, (t : Int) % 26, _, rfl, rfl, by decide, a2, ?_⟩
              refine ⟨S [97 + t / 26], S [97 + t % 26], rfl, rfl, by rw [SX.S_len, SX.S_len]; exact sz_le (by simp), ?_⟩
              refine ⟨_, rfl, _, _, rfl, rfl, ?_⟩
              refine ⟨cand t, t + 1, ?_, rfl, nx, rfl⟩
              show [some (V.ref d), some (V.ref a), some (V.str abc), some (V.int (1 + r2)), some (V.str (S [97 + t / 26] ++ S [97 + t % 26])), x5, x6, x7, some (V.int ((t : Int) + 1)), none] = _
              rw [SX.S_cat]
              rfl
            · exact ⟨l, _, rfl, tr.ok, fun z => e2 (decide_eq_true z), rfl⟩
          · obtain ⟨l, x8, rfl, lok, nin, rfl⟩ := hM
            exact ⟨_, rfl, q _ l lok nin SM1 DD1⟩
end
end Far

namespace Far
open PySem PySem.Spec PyProof.Rows L2
/-! ### xs[::e], xs a list, e tells 1 or -1 -/
def tStepL (K : PySem.W.Frag) (te ts : TE) : TE := fun σ H Q => te σ H fun x H1 => tPart ts σ H1 fun o H2 => ∃ a xs i, x = .ref a ∧ o = some i ∧ (i = 1 ∨ i = -1) ∧ SqL K H2 a xs ∧ ∀ p, H2 p = none → Q (.ref p) (upd H2 p (.lst (if i = 1 then xs else xs.reverse)))
theorem range_some {α : Type} : ∀ (l : List α), (List.range l.length).filterMap (fun m => l[m]?) = l
  | [] => rfl
  | a :: r => by
    rw [List.length_cons, List.range_succ_eq_map, List.filterMap_cons]
    show a :: ((List.range r.length).map Nat.succ).filterMap _ = _
    rw [List.filterMap_map]
    congr 1
    exact range_some r
theorem pick_one (items : Array Value) : slicePick items none none (some 1) = items := by
  have h := slicePick_cut items.toList none none
  have e : slicePick items none none (some 1) = slicePick items none none none := by rfl
  rw [e]
  rw [Array.toArray_toList] at h
  rw [h]
  have e1 : HT.sIx items.toList.length items.toList.length none = items.toList.length := rfl
  have e2 : HT.sIx items.toList.length 0 none = 0 := rfl
  rw [e1, e2, List.drop_zero, Nat.sub_zero, List.take_length, Array.toArray_toList]
theorem pe_stepL {X : Cx} {e st : Expr} {te ts : TE} {p3 pos : Pos} (he : PE X e te) (hs : PE X st ts) : PE X (.Subscript e (.Slice none none (some st) p3) pos) (tStepL X.K te ts) := by
  refine ⟨fun pins s σ H Q I h => ?_⟩
  refine Subscript_ (thn (he.run pins s σ H _ I h) fun v s1 ⟨x, H1, I1, r1, q1⟩ => ?_)
  have hst : PO X (some st) (tPart ts) := po_some hs
  refine wpAny_Slice (thn (po_none.run pins s1 σ H1 (fun o H2 => o = none ∧ H2 = H1) I1 ⟨rfl, rfl⟩) fun vl s2 ⟨l, H2, I2, pl, el, e2⟩ => ?_)
  subst el e2
  refine thn (po_none.run pins s2 σ H2 (fun o H3 => o = none ∧ H3 = H2) I2 ⟨rfl, rfl⟩) fun vu s3 ⟨u, H3, I3, pu, eu, e3⟩ => ?_
  subst eu e3
  refine thn (hst.run pins s3 σ H3 _ I3 q1) fun vs s4 ⟨o, H4, I4, ps, q2⟩ => ?_
  obtain ⟨a, xs, i, ex, eo, hi, hx, q⟩ := q2
  subst ex eo
  cases r1
  have I5 : Inv X pins σ H4 { s4 with heap := s4.heap.push { cls := .type "slice", data := .fields #[vl, vu, vs] } } := I4.kept (t' := s4.toks) fun b ob q => Heap.get?_push_of_some _ q
  obtain ⟨its, r, ht, hz⟩ := I5.list hx
  have hlen := r.length
  show wpAny (model X.prog X.w) X.A (subscriptTail e (.Slice none none (some st) p3) (.ref a) (.ref s4.heap.objs.size)) (EP X pins σ Q) X.xe { s4 with heap := s4.heap.push { cls := .type "slice", data := .fields #[vl, vu, vs] } }
  refine tail_any (ops := [.ref a, .ref s4.heap.objs.size]) ht.isList.typeIs (PySem.slot_list_getitem.lookup) ?_ (by with_unfolding_all rfl)
  refine wpAny_getItem_list_slice ht.isList (Heap.IsSliceOf.new _ vl vu vs) pl pu ps (by rcases hi with z | z <;> rw [z] <;> decide) ?_ (by rw [List.size_toArray]; omega)
  have q := q _ (I5.hok.fresh (Nat.le_refl _))
  rcases hi with z | z
  · subst z
    rw [if_pos rfl] at q
    rw [pick_one]
    refine ⟨.ref _, _, I5.laid (t' := s4.toks) (o := .lst xs) (fun b ob q => Heap.get?_push_of_some _ q) (Nat.le_refl _) ?_, rfl, q⟩
    exact ⟨hz, _, 0, r, Heap.get?_push_size _ rfl⟩
  · subst z
    rw [if_neg (by decide)] at q
    rw [PySem.W.krv_pick]
    refine ⟨.ref _, _, I5.laid (t' := s4.toks) (o := .lst xs.reverse) (fun b ob q => Heap.get?_push_of_some _ q) (Nat.le_refl _) ?_, rfl, q⟩
    exact ⟨by rw [List.length_reverse]; exact hz, _, 0, r.reverse, Heap.get?_push_size _ rfl⟩
end Far

namespace Far
open PySem PySem.Spec PyProof.Rows L2
open SX (S)
abbrev Nm := List Nat
abbrev Tie := Nm × Nm × Int
/-- places in an order in which each has one tie to those ahead; the ties in that order -/
inductive Grown : List Nm → List Tie → Prop
  | one (a : Nm) : Grown [a] []
  | leaf {os : List Nm} {es : List Tie} {a b : Nm} {k : Int} {e : Tie} : Grown os es → a ∈ os → b ∉ os → e = (a, b, k) ∨ e = (b, a, k) → 1 ≤ k → k ≤ 1000000 → Grown (os ++ [b]) (es ++ [e])
def IsTree (pl : List Nm) (ts : List Tie) : Prop := ∃ os es, Grown os es ∧ pl.Perm os ∧ ts.Perm es
theorem Grown.nodup {os : List Nm} {es : List Tie} (h : Grown os es) : os.Nodup := by
  induction h with
  | one a => simp
  | leaf _ _ hb _ _ _ ih => exact nd_snoc' ih hb
theorem Grown.len {os : List Nm} {es : List Tie} (h : Grown os es) : os.length = es.length + 1 := by
  induction h with
  | one a => rfl
  | leaf _ _ _ _ _ _ ih => rw [List.length_append, List.length_append, ih]; rfl
theorem Grown.ties {os : List Nm} {es : List Tie} (h : Grown os es) : ∀ e ∈ es, e.1 ∈ os ∧ e.2.1 ∈ os ∧ 1 ≤ e.2.2 ∧ e.2.2 ≤ 1000000 := by
  induction h with
  | one a => simp
  | leaf h1 ha hb he k1 k2 ih =>
    intro e hm
    rcases List.mem_append.mp hm with z | z
    · obtain ⟨a1, a2, a3⟩ := ih e z
      exact ⟨List.mem_append_left _ a1, List.mem_append_left _ a2, a3⟩
    · rw [List.mem_singleton.mp z]
      rcases he with e | e <;> rw [e] <;> simp [ha, k1, k2]
theorem IsTree.nodup {pl : List Nm} {ts : List Tie} (h : IsTree pl ts) : pl.Nodup := by
  obtain ⟨os, es, g, p, _⟩ := h
  exact p.nodup_iff.mpr g.nodup
theorem IsTree.len {pl : List Nm} {ts : List Tie} (h : IsTree pl ts) : pl.length = ts.length + 1 := by
  obtain ⟨os, es, g, p, q⟩ := h
  rw [p.length_eq, q.length_eq]
  exact g.len
theorem IsTree.ties {pl : List Nm} {ts : List Tie} (h : IsTree pl ts) : ∀ e ∈ ts, e.1 ∈ pl ∧ e.2.1 ∈ pl ∧ 1 ≤ e.2.2 ∧ e.2.2 ≤ 1000000 := by
  obtain ⟨os, es, g, p, q⟩ := h
  intro e he
  obtain ⟨a, b, c⟩ := g.ties e (q.mem_iff.mp he)
  exact ⟨p.mem_iff.mpr a, p.mem_iff.mpr b, c⟩

/-! ### as data -/
def tieD (t : Tie) : PyData := .tuple [.str (S t.1), .str (S t.2.1), .int t.2.2]
def strD (l : Nm) : PyData := .str (S l)
def treeD (pl : List Nm) (ts : List Tie) : PyData := .tuple [.tuple (pl.map strD), .tuple (ts.map tieD)]
/-- tuples stand as they stood -/
structure TK (H H' : Hp) : Prop where
  tup : ∀ b xs, H b = some (.tup xs) → H' b = some (.tup xs)
  frz : ∀ b o xs, H b = some (.frz o (.tup xs)) → H' b = some (.frz o (.tup xs))
theorem TK.refl (H : Hp) : TK H H := ⟨fun _ _ h => h, fun _ _ _ h => h⟩
theorem TK.trans {H H1 H2 : Hp} (a : TK H H1) (b : TK H1 H2) : TK H H2 := ⟨fun x o h => b.tup x o (a.tup x o h), fun x o u h => b.frz x o u (a.frz x o u h)⟩
theorem TK.of {H H' : Hp} (a : Same H H') : TK H H' := ⟨fun x _ h => a x _ h, fun x _ _ h => a x _ h⟩
theorem TK.new {H : Hp} {p : Addr} {o : HO} (n : H p = none) : TK H (upd H p o) :=
  ⟨fun b xs h => by rw [upd_ne (ne_of_none h n)]; exact h, fun b u xs h => by rw [upd_ne (ne_of_none h n)]; exact h⟩
theorem TK.mut {H : Hp} {p : Addr} {o : HO} {xs : List V} (n : H p = some (.lst xs)) : TK H (upd H p o) :=
  ⟨fun b ys h => by rw [upd_ne (ne_of h n (by intro z; cases z))]; exact h, fun b u ys h => by rw [upd_ne (ne_of h n (by intro z; cases z))]; exact h⟩
theorem SmX.tk {d : Addr} {H H' : Hp} {xs : List V} (s : SmX d H H') (n : H d = some (.lst xs)) : TK H H' :=
  ⟨fun b ys h => s b _ (ne_of h n (by intro z; cases z)) h, fun b u ys h => s b _ (ne_of h n (by intro z; cases z)) h⟩
theorem DeckAt.lst {H : Hp} {d c : Addr} {n : Nat} (h : DeckAt H d c n) : ∃ xs, H d = some (.lst xs) := by
  obtain ⟨_, _, _, _, _, h1, _⟩ := h
  exact ⟨_, h1⟩
theorem DeckAt.tk {H H' : Hp} {d c : Addr} {n : Nat} (h : DeckAt H d c n) (s : SmX d H H') : TK H H' := by
  obtain ⟨xs, e⟩ := h.lst
  exact s.tk e
mutual
/-- a value that never changes: none, truths, numbers, texts, tuples of such -/
inductive Dt (H : Hp) : V → PyData → Prop
  | non : Dt H .non .none
  | bl (b : Bool) : Dt H (.bl b) (.bool b)
  | int (i : Int) : Dt H (.int i) (.int i)
  | str (x : Str) : Dt H (.str x) (.str x)
  | tup {a : Addr} {xs : List V} {ds : List PyData} : H a = some (.tup xs) → DtAll H xs ds → Dt H (.ref a) (.tuple ds)
  /-- a tuple of texts that is known to have no dict of its own -/
  | tupZ {a : Addr} {pl : List Nm} {ds : List PyData} {o : Obj} : ds = pl.map strD → pl ≠ [] → o.dict = none → H a = some (.frz o (.tup ((pl.map S).map V.str))) → Dt H (.ref a) (.tuple ds)
inductive DtAll (H : Hp) : List V → List PyData → Prop
  | nil : DtAll H [] []
  | cons {v : V} {vs : List V} {d : PyData} {ds : List PyData} : Dt H v d → DtAll H vs ds → DtAll H (v :: vs) (d :: ds)
end
mutual
theorem Dt.keep {H H' : Hp} (t : TK H H') : ∀ {v : V} {d : PyData}, Dt H v d → Dt H' v d
  | _, _, .non => .non
  | _, _, .bl b => .bl b
  | _, _, .int i => .int i
  | _, _, .str x => .str x
  | _, _, .tup a b => .tup (t.tup _ _ a) (DtAll.keep t b)
  | _, _, .tupZ e n d a => .tupZ e n d (t.frz _ _ _ a)
theorem DtAll.keep {H H' : Hp} (t : TK H H') : ∀ {vs : List V} {ds : List PyData}, DtAll H vs ds → DtAll H' vs ds
  | _, _, .nil => .nil
  | _, _, .cons a b => .cons (Dt.keep t a) (DtAll.keep t b)
end
theorem dpa_strs {K : PySem.W.Frag} (H : Hp) : ∀ ls : List Nm, DpAll K H ((ls.map S).map V.str) (ls.map strD)
  | [] => .nil
  | _ :: r => .cons (.str _) (dpa_strs H r)
mutual
theorem Dt.dp {K : PySem.W.Frag} {H : Hp} : ∀ {v : V} {d : PyData}, Dt H v d → Dp K H v d
  | _, _, .non => .non
  | _, _, .bl b => .bl b
  | _, _, .int i => .int i
  | _, _, .str x => .str x
  | _, _, .tup a b => .tup (.inl (.inl a)) (DtAll.dp b)
  | _, _, .tupZ (pl := pl) (o := o) e _ _ a => e ▸ .tup (.inl (.inr ⟨o, a⟩)) (dpa_strs H pl)
theorem DtAll.dp {K : PySem.W.Frag} {H : Hp} : ∀ {vs : List V} {ds : List PyData}, DtAll H vs ds → DpAll K H vs ds
  | _, _, .nil => .nil
  | _, _, .cons a b => .cons (Dt.dp a) (DtAll.dp b)
end
theorem DtAll.len {H : Hp} : ∀ {vs : List V} {ds : List PyData}, DtAll H vs ds → vs.length = ds.length
  | _, _, .nil => rfl
  | _, _, .cons _ t => congrArg (· + 1) (DtAll.len t)
theorem DtAll.app {H : Hp} : ∀ {vs ws : List V} {ds es : List PyData}, DtAll H vs ds → DtAll H ws es → DtAll H (vs ++ ws) (ds ++ es)
  | _, _, _, _, .nil, h => h
  | _, _, _, _, .cons a t, h => .cons a (DtAll.app t h)
theorem DtAll.get {H : Hp} : ∀ {vs : List V} {ds : List PyData} {i : Nat} {v : V}, DtAll H vs ds → vs[i]? = some v → ∃ d, ds[i]? = some d ∧ Dt H v d
  | _, _, _, _, .nil, e => by simp at e
  | _, _, 0, _, .cons a _, e => by
    simp at e
    subst e
    exact ⟨_, rfl, a⟩
  | _, _, i + 1, _, .cons _ t, e => by
    obtain ⟨d, h1, h2⟩ := DtAll.get (i := i) t (by simpa using e)
    exact ⟨d, by simpa using h1, h2⟩
theorem DtAll.del {H : Hp} : ∀ {vs : List V} {ds : List PyData} (i : Nat), DtAll H vs ds → DtAll H (vs.eraseIdx i) (ds.eraseIdx i)
  | _, _, _, .nil => .nil
  | _, _, 0, .cons _ t => t
  | _, _, i + 1, .cons a t => .cons a (DtAll.del i t)
theorem DtAll.strs {H : Hp} : ∀ {ls : List Nm} {vs : List V}, DtAll H vs (ls.map strD) → vs = (ls.map S).map V.str
  | [], _, .nil => rfl
  | l :: r, _, .cons (.str _) t => by
    rw [DtAll.strs (ls := r) t]
    rfl
theorem dt_strs (H : Hp) : ∀ ls : List Nm, DtAll H ((ls.map S).map V.str) (ls.map strD)
  | [] => .nil
  | _ :: r => .cons (.str _) (dt_strs H r)
theorem perm_erase {α : Type} : ∀ {l : List α} {k : Nat} {x : α}, l[k]? = some x → (x :: l.eraseIdx k).Perm l
  | [], _, _, e => by simp at e
  | a :: r, 0, x, e => by
    simp at e
    subst e
    exact .refl _
  | a :: r, k + 1, x, e => by
    have ih := perm_erase (l := r) (k := k) (x := x) (by simpa using e)
    show (x :: a :: r.eraseIdx k).Perm (a :: r)
    exact (List.Perm.swap a x _).trans (ih.cons a)
theorem perm_pick {α : Type} {l1 l2 m : List α} {x : α} {k : Nat} (h : (l1 ++ l2).Perm m) (e : l2[k]? = some x) : ((l1 ++ [x]) ++ l2.eraseIdx k).Perm m := by
  rw [List.append_assoc]
  exact ((List.Perm.refl l1).append (perm_erase e)).trans h
theorem map_erase {α β : Type} (f : α → β) : ∀ (l : List α) (k : Nat), (l.map f).eraseIdx k = (l.eraseIdx k).map f
  | [], _ => rfl
  | _ :: _, 0 => rfl
  | a :: r, k + 1 => congrArg (f a :: ·) (map_erase f r k)
/-- a tuple of texts: of this heap, or one known through and through -/
def TupAt (H : Hp) (a : Addr) (xs : List V) : Prop := H a = some (.tup xs) ∨ ∃ o : Obj, o.dict = none ∧ H a = some (.frz o (.tup xs))
theorem TupAt.sq {K : PySem.W.Frag} {H : Hp} {a : Addr} {xs : List V} (h : TupAt H a xs) : SqT K H a xs := h.elim (fun h => .inl (.inl h)) fun ⟨o, _, h⟩ => .inl (.inr ⟨o, h⟩)
theorem TupAt.ne {H : Hp} {a p : Addr} {xs : List V} (h : TupAt H a xs) (n : H p = none) : a ≠ p := h.elim (fun h => ne_of_none h n) fun ⟨_, _, h⟩ => ne_of_none h n
theorem TupAt.same {H H' : Hp} {a : Addr} {xs : List V} (h : TupAt H a xs) (s : Same H H') : TupAt H' a xs := h.elim (fun h => .inl (s _ _ h)) fun ⟨o, d, h⟩ => .inr ⟨o, d, s _ _ h⟩
theorem TupAt.upd {H : Hp} {a p : Addr} {xs : List V} {o : HO} (h : TupAt H a xs) (n : H p = none) : TupAt (L2.upd H p o) a xs := h.elim (fun q => .inl (by rw [upd_ne (ne_of_none q n)]; exact q)) fun ⟨u, d, q⟩ => .inr ⟨u, d, by rw [upd_ne (ne_of_none q n)]; exact q⟩
theorem TupAt.updN {H : Hp} {a p : Addr} {xs : List V} {o : HO} (h : TupAt H a xs) (n : a ≠ p) : TupAt (L2.upd H p o) a xs := h.elim (fun q => .inl (by rw [upd_ne n]; exact q)) fun ⟨u, d, q⟩ => .inr ⟨u, d, by rw [upd_ne n]; exact q⟩
end Far

namespace Far
open PySem PySem.Spec PyProof.Rows L2
section
variable {X : Cx} {a o e : Expr} {ta to te : TE}
/-- tuple(xs) of a list, the new tuple known through and through -/
def tTupZ (K : PySem.W.Frag) (ta : TE) : TE := fun σ H Q => ta σ H fun x H1 => ∃ (l : Addr) (xs : List V), x = .ref l ∧ SqL K H1 l xs ∧ ∀ (p : Addr) (o : Obj), H1 p = none → o.dict = none → Q (.ref p) (upd H1 p (.frz o (.tup xs)))
theorem pe_tupleZ {p pos : Pos} (hg : Gl X "tuple") (hm : X.mg "tuple" = none) (ha : PE X a ta) (na : starEach [a] X.env = (false, eval a X.env) :: starEach [] X.env := by rfl) : PE X (.Call (.Name "tuple" p) [a] [] pos) (tTupZ X.K ta) := by
  refine ⟨fun pins s σ H Q I h => ?_⟩
  refine Call_ (ld_blt I hg hm bt_tuple (PyProof.Rows.callWith_type1 (one_arg ha I h (fun v s2 x H2 I2 r q => ?_) na) na))
  obtain ⟨l, xs, rfl, hq, q⟩ := q
  cases r
  obtain ⟨its, rv, pl, hz⟩ := I2.list hq
  refine call_tuple_list pl.isList (fun h' k => ?_) (by rw [List.size_toArray, ← rv.length]; exact hz)
  have I3 : Inv X pins σ H2 { s2 with heap := h' } := I2.kept (t' := s2.toks) k
  have new : (h'.push { cls := .type "tuple", data := .seq its.toArray }).get? h'.objs.size = some ({ cls := .type "tuple", data := .seq its.toArray } : Obj) := Heap.get?_push_size _ rfl
  exact ⟨.ref h'.objs.size, _, I3.laid (t' := s2.toks) (o := .frz { cls := .type "tuple", data := .seq its.toArray } (.tup xs)) (fun b o e => Heap.get?_push_of_some _ e) (Nat.le_refl _)
    (show ObjOk X.prog X.w _ _ _ (.frz _ (.tup xs)) from ⟨new, hz, its, rv, IsTup.new _ _⟩), rfl, q _ _ (I3.hok.fresh (Nat.le_refl _)) rfl⟩
/-- t.index(x), the first place, of a tuple of texts known through and through -/
def tIxZ (to te : TE) : TE := fun σ H Q => to σ H fun x H1 => ∃ (p : Addr) (ys : List Str) (u : Obj), x = .ref p ∧ u.dict = none ∧ H1 p = some (.frz u (.tup (ys.map V.str))) ∧ te σ H1 fun y H2 => H2 p = H1 p ∧ ∃ (z : Str) (j : Nat), y = .str z ∧ ys[j]? = some z ∧ (∀ m, m < j → ys[m]? ≠ some z) ∧ Q (.int (j : Nat)) H2
theorem pe_ixZ {apos cpos : Pos} (ho : PE X o to) (he : PE X e te) (hbase : attributeBase o "index" X.env (eval o X.env) = eval o X.env := by rfl)
    (hfew : ((backTo cpos (starEach [e] X.env)).all (fun x => !x.1) && (backToKw cpos (keywordEach [] X.env)).all (fun x => x.1.isSome)
      && decide ([e].length + ([] : List Keyword).length + (if ([] : List Keyword).isEmpty then 0 else 1) < 30)) = true := by rfl)
    (hline : (apos.endLine == cpos.line) = true := by rfl) (na : starEach [e] X.env = (false, eval e X.env) :: starEach [] X.env := by rfl) :
    PE X (.Call (.Attribute o "index" apos) [e] [] cpos) (tIxZ to te) := by
  refine ⟨fun pins s σ H Q I h => ?_⟩
  refine wpAny_Call_method_late hbase hfew hline rfl (thn (ho.run pins s σ H _ I h) fun v s1 ⟨x, H1, I1, r1, q1⟩ => ?_)
  obtain ⟨p, ys, u, rfl, hd, hp, q1⟩ := q1
  cases r1
  have fz : ObjOk X.prog X.w H1 s1.heap p (.frz u (.tup (ys.map V.str))) := I1.hok p _ hp
  obtain ⟨hu, hz, its, rv, it⟩ := fz
  refine ⟨"tuple", "tuple.index", PySem.F.plainAttrs_tuple, PySem.F.slot_tuple_index, PySem.F.type_tuple_index, it.typeIs, fun c e => by cases e; exact ⟨u, hu, hd⟩, ?_⟩
  have hA : wpAny (model X.prog X.w) X.A (spliced (backTo cpos (starEach [e] X.env))) (fun us s2 => wpAny (model X.prog X.w) X.A (call (.builtin "tuple.index") (.ref p :: us)) (EP X pins σ Q) X.xe s2) X.xe s1 :=
    one_arg he I1 q1 (fun y s2 x H2 I2 r2 q2 => by
      obtain ⟨same, z, j, rfl, hj, hno, q⟩ := q2
      exact mt_tup_index pins s2 σ H2 (.ref p) [.str z] (.ref p) [y] Q I2 rfl (.cons r2 .nil) ⟨p, ys, z, j, rfl, rfl, .inl (.inr ⟨u, same.trans hp⟩), hj, hno, q⟩) na
  rw [na] at hA ⊢
  exact Calls.callWith_builtin (by rfl) (Calls.evalArgs_plain hA)
/-- (a, b, ..), the new tuple known through and through -/
def tTupD (ta : TA) : TE := fun σ H Q => ta σ H fun xs H1 => xs.length ≤ sizeLine ∧ ∀ (p : Addr) (o : Obj), H1 p = none → o.dict = none → Q (.ref p) (upd H1 p (.frz o (.tup xs)))
theorem pe_tupD {es : List Expr} {x1 : Nat} {pos : Pos} {t : TA} (h : PA X es t) : PE X (.Tuple es x1 pos) (tTupD t) := by
  refine ⟨fun pins s σ H Q I hq => ?_⟩
  refine wpAny_Tuple_spliced (thn (h.run pos pins s σ H _ I hq) fun us s1 ⟨xs, H1, I1, r, z, q⟩ => ⟨by rw [← r.length]; exact z, ?_⟩)
  have hf : H1 s1.heap.objs.size = none := I1.hok.fresh (Nat.le_refl _)
  have new : (s1.heap.push { cls := .type "tuple", data := .seq us.toArray }).get? s1.heap.objs.size = some ({ cls := .type "tuple", data := .seq us.toArray } : Obj) := Heap.get?_push_size _ rfl
  refine ⟨.ref s1.heap.objs.size, upd H1 s1.heap.objs.size (.frz { cls := .type "tuple", data := .seq us.toArray } (.tup xs)), I1.laid (t' := s1.toks) (fun b u e => Heap.get?_push_of_some _ e) (Nat.le_refl _) ?_, rfl, q _ _ hf rfl⟩
  exact (show ObjOk X.prog X.w _ _ _ (.frz _ (.tup xs)) from ⟨new, z, us, r, IsTup.new _ _⟩)
end
end Far

namespace Far
open PySem PySem.Spec PyProof.Rows L2
open C8 (pss_cut tCut)
open SX (S)
abbrev s_law_tree : Stmt := topS 23
abbrev N_law_tree : List Str := ["seed", "most", "many", "shape", "kind", "names", "ties", "k", "order", "near", "at", "pair"]
theorem sc_law_tree : FnScope N_law_tree ["seed", "most"] (defScope s_law_tree) := ⟨rfl, rfl, rfl, by decide +kernel, rfl, by decide +kernel, by decide +kernel⟩
def iV (j : Nat) : V := .int j
theorem rgV_nat (n : Nat) : rgV 0 (n : Int) = (List.range n).map iV := by
  unfold rgV
  rw [show ((n : Int) - 0).toNat = n by omega]
  refine List.map_congr_left fun i _ => ?_
  show V.int (0 + (i : Int)) = V.int i
  rw [Int.zero_add]
theorem getD_range : ∀ ls : List Nm, (List.range ls.length).map (fun j => ls.getD j []) = ls
  | [] => rfl
  | a :: r => by
    rw [List.length_cons, List.range_succ_eq_map, List.map_cons, List.map_map]
    congr 1
    exact getD_range r
/-- the names in the order told -/
def inOrd (ls : List Nm) (js : List Nat) : List Nm := js.map fun j => ls.getD j []
theorem inOrd_perm {ls : List Nm} {js : List Nat} (h : js.Perm (List.range ls.length)) : (inOrd ls js).Perm ls := by
  have := h.map fun j => ls.getD j []
  rwa [getD_range] at this
theorem inOrd_at {ls : List Nm} {js : List Nat} (h : js.Perm (List.range ls.length)) {a : Nat} (ha : a < ls.length) : ∃ (j : Nat) (x : Nm), (js.map iV)[a]? = some (.int j) ∧ ((ls.map S).map V.str)[j]? = some (.str (S x)) ∧ (inOrd ls js)[a]? = some x := by
  have hl : js.length = ls.length := by rw [h.length_eq, List.length_range]
  have h1 : js[a]? = some (js[a]'(by omega)) := List.getElem?_eq_getElem (by omega)
  generalize js[a]'(by omega) = j at h1
  have hj : j < ls.length := List.mem_range.mp (h.mem_iff.mp (List.mem_of_getElem? h1))
  refine ⟨j, ls[j], by rw [List.getElem?_map, h1]; rfl, by rw [List.getElem?_map, List.getElem?_map, List.getElem?_eq_getElem hj]; rfl, ?_⟩
  unfold inOrd
  rw [List.getElem?_map, h1]
  show some (ls.getD j []) = _
  simp [List.getD, hj]
theorem perm_insert {α : Type} {l m : List α} {x : α} (k : Nat) (h : l.Perm m) : (l.take k ++ [x] ++ l.drop k).Perm (m ++ [x]) := by
  have e : (l.take k ++ [x] ++ l.drop k).Perm (x :: l) := by
    rw [List.append_assoc]
    have := List.perm_middle (a := x) (l₁ := l.take k) (l₂ := l.drop k)
    rw [List.take_append_drop] at this
    exact this
  exact (e.trans (h.cons x)).trans (List.perm_append_singleton x m).symm
theorem DtAll.ins {H : Hp} {vs : List V} {ds : List PyData} {v : V} {d : PyData} (k : Nat) (h : DtAll H vs ds) (hv : Dt H v d) : DtAll H (vs.take k ++ [v] ++ vs.drop k) (ds.take k ++ [d] ++ ds.drop k) := by
  have ht : ∀ (k : Nat) {vs : List V} {ds : List PyData}, DtAll H vs ds → DtAll H (vs.take k) (ds.take k) ∧ DtAll H (vs.drop k) (ds.drop k) := by
    intro k
    induction k with
    | zero => exact fun h => ⟨.nil, h⟩
    | succ k ih =>
      intro vs ds h
      cases h with
      | nil => exact ⟨.nil, .nil⟩
      | cons a t => exact ⟨.cons a (ih t).1, (ih t).2⟩
  exact ((ht k h).1.app (.cons hv .nil)).app (ht k h).2
theorem SeedAt.tk {H H' : Hp} {d : Addr} {n : Nat} (h : SeedAt H d n) (s : SmX d H H') : TK H H' := by
  obtain ⟨xs, e⟩ := h.lst
  exact s.tk e
theorem seq_ix {r : Int} {n : Nat} (h0 : 0 ≤ r) (h1 : r < n) : seqIndex? r n = some r.toNat := by
  refine (ixN_seq (j := r.toNat) ?_).1
  unfold ixN
  rw [if_pos h0, if_pos h1]
/-- within the making of a tree: the names at p, the ties so far at t -/
structure Tr (H H' : Hp) (d p t : Addr) (n : Nat) (ls : List Nm) (tvs : List V) (ts : List Tie) : Prop where
  nm : NamesAt H' p ls
  tt : H' t = some (.lst tvs)
  al : DtAll H' tvs (ts.map tieD)
  sm : SmX d H H'
  dk : SeedAt H' d n
theorem Tr.new {H H' : Hp} {d p t q : Addr} {n : Nat} {ls : List Nm} {tvs : List V} {ts : List Tie} {o : HO} (x : Tr H H' d p t n ls tvs ts) (nq : H' q = none) : Tr H (upd H' q o) d p t n ls tvs ts :=
  ⟨by unfold NamesAt; rw [upd_ne (ne_of_none x.nm nq)]; exact x.nm, by rw [upd_ne (ne_of_none x.tt nq)]; exact x.tt, DtAll.keep (TK.new nq) x.al, x.sm.new nq, x.dk.new nq⟩
theorem Tr.step {H H' H'' : Hp} {d p t : Addr} {n m : Nat} {ls : List Nm} {tvs : List V} {ts : List Tie} (x : Tr H H' d p t n ls tvs ts) (npd : p ≠ d) (ntd : t ≠ d) (s : SmX d H' H'') (D : SeedAt H'' d m) : Tr H H'' d p t m ls tvs ts :=
  ⟨s p _ npd x.nm, s t _ ntd x.tt, DtAll.keep (x.dk.tk s) x.al, x.sm.trans s, D⟩
theorem Tr.put {H H' : Hp} {d p t q : Addr} {n : Nat} {ls : List Nm} {tvs xs : List V} {ts : List Tie} {o : HO} (x : Tr H H' d p t n ls tvs ts) (np : q ≠ p) (nt : q ≠ t) (nd : q ≠ d) (n0 : H q = none) (hq : H' q = some (.lst xs)) : Tr H (upd H' q o) d p t n ls tvs ts :=
  ⟨by unfold NamesAt; rw [upd_ne np.symm]; exact x.nm, by rw [upd_ne nt.symm]; exact x.tt, DtAll.keep (TK.mut hq) x.al, x.sm.put n0, x.dk.put nd⟩
theorem Tr.mono {H H' : Hp} {d p t : Addr} {n m : Nat} {ls : List Nm} {tvs : List V} {ts : List Tie} (x : Tr H H' d p t n ls tvs ts) (h : n ≤ m) : Tr H H' d p t m ls tvs ts := ⟨x.nm, x.tt, x.al, x.sm, x.dk.mono h⟩
section
variable {P : Program} {w : World} {K : PySem.W.Frag} {mg : Str → Option Value} {base : Heap}
/-- the tree's places stand as a tuple that is known through and through -/
def PlZ (H : Hp) (v : V) (pl : List Nm) : Prop := ∃ (t a b : Addr) (o : Obj), v = .ref t ∧ H t = some (.tup [.ref a, .ref b]) ∧ o.dict = none ∧ H a = some (.frz o (.tup ((pl.map S).map V.str)))
theorem PlZ.same {H H' : Hp} {v : V} {pl : List Nm} (h : PlZ H v pl) (s : Same H H') : PlZ H' v pl := by
  obtain ⟨t, a, b, o, e, h1, h2, h3⟩ := h
  exact ⟨t, a, b, o, e, s _ _ h1, h2, s _ _ h3⟩
theorem PlZ.keep {H H' : Hp} {v : V} {pl : List Nm} (h : PlZ H v pl) (s : TK H H') : PlZ H' v pl := by
  obtain ⟨t, a, b, o, e, h1, h2, h3⟩ := h
  exact ⟨t, a, b, o, e, s.tup _ _ h1, h2, s.frz _ _ _ h3⟩
def spTree : Sp := fun vs H Q _ => ∃ (d : Addr) (n : Nat) (most : Nat), vs = [.ref d, .int most] ∧ SeedAt H d n ∧ n < 70000 ∧ 1 ≤ most ∧ most ≤ 30 ∧ ∀ (H' : Hp) (t : Addr) (pl : List Nm) (ts : List Tie), IsTree pl ts → (∀ l ∈ pl, NameOk l) → pl.length ≤ most → Dt H' (.ref t) (treeD pl ts) → PlZ H' (.ref t) pl → SmX d H H' → SeedAt H' d (n + 1000) → Q (.ref t) H'
theorem ok_tree {f : Addr} {fd : FuncData} (F : Fun K "_law_tree" "_law_tree" s_law_tree f fd) (T : TxtG mg) (C_law_draw : Cal P w K mg base 1 "_law_draw" spDraw) (C_law_name : Cal P w K mg base 2 "_law_name" spName) (C_law_length : Cal P w K mg base 2 "_law_length" spLength) : FnOk P w K mg base CX0 3 f fd ["seed", "most"] spTree := by
  refine F.ok sc_law_tree (fun vs H Q E h => ?_) (fun cdv A outer s H vs Q E hr h => ?_)
  · obtain ⟨d, n, most, rfl, _⟩ := h
    rfl
  · obtain ⟨d, n, most, rfl, hD, hn, hm1, hm, q⟩ := h
    refine ⟨_, (pss_cons (ps_set (i := 2) sc_law_tree.nd rfl (.inl rfl) (pe_ix ix_list (pe_lst (pa_cons (pe_op op_add pe_int (pe_c C_law_draw hr (by decide) rfl (pa_cons (pv 0) (pa_cons (pe_callB (call_min2 rfl) (by rfl) T.min bt_min (pa_cons (pv 1) (pa_cons pe_int pa_nil))) pa_nil)))) (pa_cons (pe_op op_add pe_int (pe_c C_law_draw hr (by decide) rfl (pa_cons (pv 0) (pa_cons (pv 1) pa_nil)))) (pa_cons (pv 1) pa_nil)))) (pe_c C_law_draw hr (by decide) rfl (pa_cons (pv 0) (pa_cons pe_int pa_nil))) (fun _ _ => rfl)))
      (pss_cons (ps_set (i := 3) sc_law_tree.nd rfl (.inl rfl) (pe_c C_law_draw hr (by decide) rfl (pa_cons (pv 0) (pa_cons pe_int pa_nil))))
      (pss_cons (ps_set (i := 4) sc_law_tree.nd rfl (.inl rfl) (pe_c C_law_draw hr (by decide) rfl (pa_cons (pv 0) (pa_cons pe_int pa_nil))))
      (pss_cons (ps_set (i := 5) sc_law_tree.nd rfl (.inl rfl) (pe_lst pa_nil))
      (pss_cons (ps_set (i := 6) sc_law_tree.nd rfl (.inl rfl) (pe_lst pa_nil))
      (pss_cut (ps_for PassesOwn.never rfl (pi_range1 (by rfl) T.range (pa_cons (pv 2) pa_nil)) (pg_name (i := 7) sc_law_tree.nd rfl (.inl rfl))
        (pss_one (ps_expr (pe_bm PySem.F.plainAttrs_list PySem.F.slot_list_append PySem.F.type_list_append mt_append (pv 5) (pa_cons (pe_c C_law_name hr (by decide) rfl (pa_cons (pv 0) (pa_cons (pv 5) pa_nil))) pa_nil)))))
      (pss_cons (ps_set (i := 8) sc_law_tree.nd rfl (.inr rfl) (pe_listRg rfl (by rfl) T.list (prg_1 (by rfl) T.range (pv 2))))
      (pss_cut (ps_if (pt_cmpR op_gt (pe_c C_law_draw hr (by decide) rfl (pa_cons (pv 0) (pa_cons pe_int pa_nil))) pe_int (nomark _))
        (pss_one (ps_set (i := 8) sc_law_tree.nd rfl (.inr rfl) (pe_lc (own := [("k", 7)]) (g := gName 7) (tt := tYes) rfl sc_law_tree.nd (pi_range1 (by rfl) T.range (pa_cons (pv 2) pa_nil)) (blkOk_by (N := N_law_tree) (sc := defScope s_law_tree) (by decide +kernel)) (fun _ _ _ _ _ => pg_name (i := 7) sc_law_tree.nd rfl (Or.inl rfl)) (fun _ _ _ _ _ => pts_nil) (fun _ _ _ _ _ => (show PE _ _ (tBM K "list" rPopAt _ _) from pe_bm PySem.F.plainAttrs_list PySem.F.slot_list_pop PySem.F.type_list_pop mt_popAt (pv 8) (pa_cons (pe_c C_law_draw hr (by decide) rfl (pa_cons (pv 0) (pa_cons (pe_callB (lenK (K := K)) (by rfl) T.len bt_len (pa_cons (pv 8) pa_nil)) pa_nil))) pa_nil))))))
        pss_nil)
      (pss_cut (ps_for PassesOwn.never rfl (pi_range2 (by rfl) T.range (pa_cons pe_int (pa_cons (pv 2) pa_nil))) (pg_name (i := 7) sc_law_tree.nd rfl (.inl rfl))
        (pss_cons (ps_set (i := 9) sc_law_tree.nd rfl (.inl rfl) (pe_op op_sub (pe_op op_sub (pv 7) pe_int) (pe_c C_law_draw hr (by decide) rfl (pa_cons (pv 0) (pa_cons (pe_callB (call_min2 rfl) (by rfl) T.min bt_min (pa_cons (pv 7) (pa_cons pe_int pa_nil))) pa_nil)))))
        (pss_cons (ps_set (i := 10) sc_law_tree.nd rfl (.inl rfl) (pe_ix ix_list (pe_lst (pa_cons (pe_op op_sub (pv 7) pe_int) (pa_cons pe_int (pa_cons (pe_op op_mul (pe_op op_mod (pv 7) pe_int) (pe_callTy call_int1 (by rfl) T.int bt_int (pa_cons (pe_cmpR op_gt (pv 7) pe_int (nomark _)) pa_nil))) (pa_cons (pv 9) (pa_cons (pe_c C_law_draw hr (by decide) rfl (pa_cons (pv 0) (pa_cons (pv 7) pa_nil))) (pa_cons (pe_callB (call_max2 rfl) (by rfl) T.max bt_max (pa_cons pe_int (pa_cons (pe_op op_sub (pe_op op_sub (pv 7) pe_int) (pe_op op_mod (pv 7) pe_int)) pa_nil))) pa_nil))))))) (pv 3) (fun _ _ => rfl)))
        (pss_cons (ps_set (i := 11) sc_law_tree.nd rfl (.inl rfl) (pe_stepL (pe_lst (pa_cons (pe_ix ix_list (pv 5) (pe_ix ix_list (pv 8) (pv 10) (fun _ _ => rfl)) (fun _ _ => rfl)) (pa_cons (pe_ix ix_list (pv 5) (pe_ix ix_list (pv 8) (pv 7) (fun _ _ => rfl)) (fun _ _ => rfl)) pa_nil))) (pe_ix ix_list (pe_lst (pa_cons pe_int (pa_cons (pe_un un_neg pe_int) pa_nil))) (pe_c C_law_draw hr (by decide) rfl (pa_cons (pv 0) (pa_cons pe_int pa_nil))) (fun _ _ => rfl))))
        (pss_one (ps_expr (pe_bm PySem.F.plainAttrs_list PySem.F.slot_list_insert PySem.F.type_list_insert mt_insert (pv 6) (pa_cons (pe_c C_law_draw hr (by decide) rfl (pa_cons (pv 0) (pa_cons (pe_op op_add (pe_callB call_len_seq (by rfl) T.len bt_len (pa_cons (pv 6) pa_nil)) pe_int) pa_nil))) (pa_cons (pe_tup (pa_cons (pe_ix ix_list (pv 11) pe_int (fun _ _ => rfl)) (pa_cons (pe_ix ix_list (pv 11) pe_int (fun _ _ => rfl)) (pa_cons (pe_c C_law_length hr (by decide) rfl (pa_cons (pv 0) (pa_cons (pv 4) pa_nil))) pa_nil)))) pa_nil)))))))))
      (pss_one (ps_ret (pe_tup (pa_cons (pe_tupleZ (by rfl) T.tuple (pv 5)) (pa_cons (pe_tupleOf (by rfl) T.tuple (pv 6)) pa_nil)))))))))))))), ?_⟩
    -- many
    refine ⟨_, rfl, _, rfl, _, _, rfl, d, n, _, rfl, hD, by omega, by split <;> omega, by split <;> omega, fun H1 r1 r10 r11 S1 D1 => ⟨_, _, rfl, rfl, ?_⟩⟩
    have r12 : r1 < most := by split at r11 <;> omega
    refine ⟨_, rfl, _, rfl, d, _, most, rfl, D1, by omega, by omega, by omega, fun H2 r2 r20 r21 S2 D2 => ⟨_, _, rfl, rfl, ?_⟩⟩
    refine ⟨_, rfl, (by show 3 ≤ sizeLine; decide), fun p1 np1 => ?_⟩
    refine ⟨_, rfl, d, _, 3, rfl, D2.new np1, by omega, by decide, by decide, fun H3 r3 r30 r31 S3 D3 => ?_⟩
    have hp1 := S3 p1 _ (D2.nd np1) upd_same
    have SM3 : SmX d H H3 := ((S1.trans S2).new np1).trans S3
    obtain ⟨v, hv, mv⟩ := atI_in (xs := [V.int (1 + r1), .int (1 + r2), .int most]) r30 (by simpa using r31)
    have hs : ∃ m : Nat, v = .int m ∧ 1 ≤ m ∧ m ≤ most := by
      simp only [List.mem_cons, List.not_mem_nil, or_false] at mv
      rcases mv with e | e | e
      · exact ⟨(1 + r1).toNat, by rw [e]; congr 1; omega, by omega, by omega⟩
      · exact ⟨(1 + r2).toNat, by rw [e]; congr 1; omega, by omega, by omega⟩
      · exact ⟨most, e, by omega, by omega⟩
    obtain ⟨many, rfl, m1, mm⟩ := hs
    refine ⟨p1, _, r3, _, rfl, rfl, SqL.of hp1, hv, ?_⟩
    -- shape, kind
    refine ⟨_, rfl, d, _, 6, rfl, D3, by omega, by decide, by decide, fun H4 shape w0 w1 S4 D4 => ?_⟩
    refine ⟨_, rfl, d, _, 5, rfl, D4, by omega, by decide, by decide, fun H5 kind g0 g1 S5 D5 => ?_⟩
    have SM5 : SmX d H H5 := (SM3.trans S4).trans S5
    -- names, ties
    refine ⟨Nat.zero_le _, fun p np => ?_⟩
    have npd : p ≠ d := D5.nd np
    have np0 : H p = none := SM5.free np npd
    have D6 := D5.new (o := .lst []) np
    have SM6 : SmX d H (upd H5 p (.lst [])) := SM5.new np
    refine ⟨Nat.zero_le _, fun t nt => ?_⟩
    have ntd : t ≠ d := D6.nd nt
    have nt0 : H t = none := SM6.free nt ntd
    have ntp : p ≠ t := ne_of_none upd_same nt
    -- the names
    refine ⟨fun σ' H' => ∃ (x7 : Option V) (ls : List Nm), σ' = [some (.ref d), some (.int most), some (.int many), some (.int shape), some (.int kind), some (.ref p), some (.ref t), x7, none, none, none, none] ∧ ls.length = many ∧ ls.Nodup ∧ (∀ l ∈ ls, NameOk l) ∧ Tr H H' d p t (n + 5 + 20 * many) ls [] [], ?_, fun σ' H' hM => ?_⟩
    · refine ⟨_, rfl, (many : Int), rfl, by omega, by omega, ?_⟩
      refine for_range (lo := 0) (n := (many : Int).toNat) (fun i σ' H' => ∃ (x7 : Option V) (ls : List Nm), σ' = [some (.ref d), some (.int most), some (.int many), some (.int shape), some (.int kind), some (.ref p), some (.ref t), x7, none, none, none, none] ∧ ls.length = i ∧ ls.Nodup ∧ (∀ l ∈ ls, NameOk l) ∧ Tr H H' d p t (n + 5 + 20 * i) ls [] []) ⟨none, [], rfl, rfl, List.nodup_nil, by simp, ?_, upd_same, .nil, SM6.new nt, D6.new nt⟩ (fun i σ' H' hi hP => ?_) (fun σ' H' hP => ?_)
      · unfold NamesAt
        rw [upd_ne ntp]
        exact upd_same
      · obtain ⟨x7, ls, rfl, hl, nd, ok, X0⟩ := hP
        refine ⟨_, rfl, .inl ⟨rfl, _, SqL.of X0.nm⟩, _, rfl, _, rfl, d, p, _, ls, rfl, X0.dk, by omega, npd, X0.nm, by omega, ok, fun H7 l lok nin S7 D7 => ?_⟩
        have X7 := X0.step npd ntd S7 D7
        refine ⟨p, _, _, rfl, rfl, X7.nm, by rw [List.length_map, List.length_map]; exact sz_lt (by omega), ?_⟩
        refine ⟨_, ls ++ [l], rfl, by rw [List.length_append, hl]; rfl, nd_snoc' nd nin, fun x hx => ?_, ?_, ?_, ?_, X7.sm.put np0, (X7.dk.put npd).mono (by omega)⟩
        · rcases List.mem_append.mp hx with z | z
          · exact ok x z
          · rw [List.mem_singleton.mp z]
            exact lok
        · unfold NamesAt
          rw [upd_same, List.map_append, List.map_append]
          rfl
        · rw [upd_ne ntp.symm]
          exact X7.tt
        · exact .nil
      · obtain ⟨x7, ls, rfl, hl, nd, ok, X0⟩ := hP
        exact ⟨x7, ls, rfl, by omega, nd, ok, X0.mono (by omega)⟩
    obtain ⟨x7, ls, rfl, hl, nd, ok, X1⟩ := hM
    -- order
    refine ⟨_, rfl, (many : Int), rfl, RgOk.of_le (by omega) (by omega) (by omega) (by omega), fun o no => ?_⟩
    rw [rgV_nat]
    have X2 := X1.new (o := .lst ((List.range many).map iV)) no
    have od : o ≠ d := X1.dk.nd no
    have o0 : H o = none := X1.sm.free no od
    have op : o ≠ p := (ne_of_none X1.nm no).symm
    have ot : o ≠ t := (ne_of_none X1.tt no).symm
    refine ⟨fun σ' H' => ∃ (x7 : Option V) (o : Addr) (js : List Nat), σ' = [some (.ref d), some (.int most), some (.int many), some (.int shape), some (.int kind), some (.ref p), some (.ref t), x7, some (.ref o), none, none, none] ∧ o ≠ d ∧ o ≠ p ∧ o ≠ t ∧ H o = none ∧ js.Perm (List.range ls.length) ∧ H' o = some (.lst (js.map iV)) ∧ Tr H H' d p t (n + 640) ls [] [], ?_, fun σ' H' hM => ?_⟩
    · refine ⟨_, rfl, d, _, 3, rfl, X2.dk, by omega, by decide, by decide, fun H7 r7 r70 r71 S7 D7 => ?_⟩
      have X7 := X2.step npd ntd S7 D7
      have ho7 : H7 o = some (.lst ((List.range many).map iV)) := S7 o _ od upd_same
      refine ⟨_, _, rfl, rfl, _, rfl, ?_⟩
      refine ite2 (fun e => ?_) (fun e => ?_)
      · refine ⟨_, rfl, (many : Int), rfl, by omega, by omega, fun D nD => ?_⟩
        have Dd := X7.dk.nd nD
        have D0 : H D = none := X7.sm.free nD Dd
        have Dp' : D ≠ p := (ne_of_none X7.nm nD).symm
        have DNt : D ≠ t := (ne_of_none X7.tt nD).symm
        have Do : D ≠ o := (ne_of_none ho7 nD).symm
        refine lc_range (lo := 0) (n := (many : Int).toNat) (fun i H'' => ∃ l1 l2 : List Nat, l1.length = i ∧ (l1 ++ l2).Perm (List.range many) ∧ H'' D = some (.lst (l1.map iV)) ∧ H'' o = some (.lst (l2.map iV)) ∧ Tr H H'' d p t (n + 6 + 20 * many + i) ls [] [])
          ⟨[], List.range many, rfl, List.Perm.refl _, upd_same, by rw [upd_ne Do.symm]; exact ho7, (X7.new nD).mono (by omega)⟩ (fun i H'' hi hP => ?_) (fun H'' hP => ?_)
        · obtain ⟨l1, l2, hl1, pm, hDD, ho, X3⟩ := hP
          have ll := pm.length_eq
          rw [List.length_append, List.length_range] at ll
          refine ⟨rfl, _, rfl, .inl ⟨rfl, _, SqL.of ho⟩, _, rfl, _, rfl, .ref o, _, rfl, .inl ⟨_, SqL.of ho, rfl⟩, d, _, _, rfl, X3.dk, by omega, by rw [List.length_map]; omega, by rw [List.length_map]; omega, fun H8 r r0 r1 S8 D8 => ?_⟩
          have X8 := X3.step npd ntd S8 D8
          have hD8 := S8 D _ Dd hDD
          have ho8 := S8 o _ od ho
          rw [List.length_map] at r1
          have hx : l2[r.toNat]? = some (l2[r.toNat]'(by omega)) := List.getElem?_eq_getElem (by omega)
          generalize l2[r.toNat]'(by omega) = x at hx
          have hx' : (l2.map iV)[r.toNat]? = some (iV x) := by
            rw [List.getElem?_map, hx]
            rfl
          refine ⟨o, _, r, r.toNat, iV x, rfl, rfl, ho8, by omega, by omega, seq_ix r0 (by rw [List.length_map]; exact r1), hx', ?_⟩
          have X9 := X8.put (o := .lst ((l2.map iV).eraseIdx r.toNat)) op ot od o0 ho8
          have hD9 : (upd H8 o (.lst ((l2.map iV).eraseIdx r.toNat))) D = some (.lst (l1.map iV)) := by
            rw [upd_ne Do]
            exact hD8
          refine ⟨_, hD9, by rw [List.length_map]; exact sz_lt (by omega), l1 ++ [x], l2.eraseIdx r.toNat, by rw [List.length_append, hl1]; rfl, perm_pick pm hx, ?_, ?_, X9.put Dp' DNt Dd D0 hD9⟩
          · rw [upd_same, List.map_append]
            rfl
          · rw [upd_ne Do.symm, upd_same, map_erase]
        · obtain ⟨l1, l2, hl1, pm, hDD, ho, X3⟩ := hP
          have ll := pm.length_eq
          rw [List.length_append, List.length_range] at ll
          have e2 : l2 = [] := List.length_eq_zero_iff.mp (by omega)
          subst e2
          rw [List.append_nil] at pm
          exact ⟨_, D, l1, rfl, Dd, Dp', DNt, D0, by rw [hl]; exact pm, hDD, X3.mono (by omega)⟩
      · exact ⟨_, o, List.range many, rfl, od, op, ot, o0, by rw [hl], ho7, X7.mono (by omega)⟩
    clear x7 X1 X2 no od o0 op ot
    clear o
    obtain ⟨x7, o, js, rfl, od, op, ot, o0, pj, ho, X1⟩ := hM
    have pos := inOrd_perm pj
    have ol : (inOrd ls js).length = many := by rw [pos.length_eq, hl]
    have ond : (inOrd ls js).Nodup := pos.nodup_iff.mpr nd
    -- the ties
    refine ⟨fun σ' H' => ∃ (x7 x9 x10 x11 : Option V) (tvs : List V) (ts es : List Tie), σ' = [some (.ref d), some (.int most), some (.int many), some (.int shape), some (.int kind), some (.ref p), some (.ref t), x7, some (.ref o), x9, x10, x11] ∧ Grown (inOrd ls js) es ∧ ts.Perm es ∧ Tr H H' d p t (n + 1000) ls tvs ts, ?_, fun σ' H' hM => ?_⟩
    · refine ⟨_, rfl, 1, many, rfl, ⟨by decide, by decide, by omega, by omega⟩, ?_⟩
      refine for_range (lo := 1) (n := ((many : Int) - 1).toNat) (fun i σ' H' => ∃ (x7 x9 x10 x11 : Option V) (tvs : List V) (ts es : List Tie), σ' = [some (.ref d), some (.int most), some (.int many), some (.int shape), some (.int kind), some (.ref p), some (.ref t), x7, some (.ref o), x9, x10, x11] ∧ Grown ((inOrd ls js).take (i + 1)) es ∧ ts.Perm es ∧ H' o = some (.lst (js.map iV)) ∧ Tr H H' d p t (n + 640 + 8 * i) ls tvs ts) ⟨_, _, _, _, [], [], [], rfl, ?_, List.Perm.refl _, ho, X1⟩ (fun i σ' H' hi hP => ?_) (fun σ' H' hP => ?_)
      · cases hos : inOrd ls js with
        | nil => rw [hos] at ol; simp at ol; omega
        | cons a r => exact Grown.one a
      · obtain ⟨x7, x9, x10, x11, tvs, ts, es, rfl, hG, pm, ho0, X0⟩ := hP
        have hi' : i + 1 < many := by omega
        -- near
        refine ⟨_, rfl, _, _, rfl, rfl, _, rfl, _, rfl, _, _, rfl, d, _, _, rfl, X0.dk, by omega, by split <;> omega, by split <;> omega, fun H7 nr nr0 nr1 S7 D7 => ⟨_, _, rfl, rfl, ?_⟩⟩
        have nr2 : nr < 1 + (i : Int) := by split at nr1 <;> omega
        have X7 := X0.step npd ntd S7 D7
        have ho7 := S7 o _ od ho0
        -- at
        refine ⟨_, rfl, _, _, rfl, rfl, _, rfl, _, _, rfl, rfl, (by show (0 : Int) < _; decide), ?_⟩
        refine ⟨_, rfl, _, _, rfl, rfl, .inr ⟨_, rfl, ?_⟩⟩
        refine ⟨_, _, rfl, rfl, .inl ⟨by omega, by omega⟩, _, rfl, _, rfl, _, rfl, d, _, _, rfl, X7.dk, by omega, by omega, by omega, fun H8 a a0 a1 S8 D8 => ?_⟩
        have X8 := X7.step npd ntd S8 D8
        have ho8 := S8 o _ od ho7
        refine ⟨_, rfl, _, _, rfl, rfl, _, rfl, _, _, rfl, rfl, (by show (0 : Int) < _; decide), _, _, rfl, rfl, _, _, rfl, (by show 6 ≤ sizeLine; decide), fun p8 np8 => ?_⟩
        have X9 := X8.new (o := .lst [V.int (1 + (i : Int) - 1), .int 0, .int ((1 + (i : Int)) % 2 * if decide (1 + (i : Int) > 1) = true then 1 else 0), .int (1 + (i : Int) - 1 - nr), .int a, .int (if 1 + (i : Int) - 1 - (1 + (i : Int)) % 2 > 0 then 1 + (i : Int) - 1 - (1 + (i : Int)) % 2 else 0)]) np8
        obtain ⟨v, hv, mv⟩ := atI_in (xs := [V.int (1 + (i : Int) - 1), .int 0, .int ((1 + (i : Int)) % 2 * if decide (1 + (i : Int) > 1) = true then 1 else 0), .int (1 + (i : Int) - 1 - nr), .int a, .int (if 1 + (i : Int) - 1 - (1 + (i : Int)) % 2 > 0 then 1 + (i : Int) - 1 - (1 + (i : Int)) % 2 else 0)]) w0 (by simpa using w1)
        have hs : ∃ m : Nat, v = .int m ∧ m < i + 1 := by
          simp only [List.mem_cons, List.not_mem_nil, or_false] at mv
          rcases mv with e | e | e | e | e | e
          · exact ⟨i, by rw [e]; congr 1; omega, by omega⟩
          · exact ⟨0, e, by omega⟩
          · by_cases z : decide (1 + (i : Int) > 1) = true
            · rw [if_pos z, Int.mul_one] at e
              have z := of_decide_eq_true z
              exact ⟨((1 + (i : Int)) % 2).toNat, by rw [e, Int.toNat_of_nonneg (by omega)], by omega⟩
            · rw [if_neg z, Int.mul_zero] at e
              exact ⟨0, e, by omega⟩
          · exact ⟨(1 + (i : Int) - 1 - nr).toNat, by rw [e, Int.toNat_of_nonneg (by omega)], by omega⟩
          · exact ⟨a.toNat, by rw [e]; congr 1; omega, by omega⟩
          · by_cases z : 1 + (i : Int) - 1 - (1 + (i : Int)) % 2 > 0
            · rw [if_pos z] at e
              exact ⟨(1 + (i : Int) - 1 - (1 + (i : Int)) % 2).toNat, by rw [e]; congr 1; omega, by omega⟩
            · rw [if_neg z] at e
              exact ⟨0, e, by omega⟩
        obtain ⟨at', rfl, hat⟩ := hs
        refine ⟨_, rfl, p8, _, shape, _, rfl, rfl, SqL.of upd_same, hv, ?_⟩
        have ho9 : ∀ O, (upd H8 p8 O) o = some (.lst (js.map iV)) := fun O => by
          rw [upd_ne (ne_of_none ho8 np8)]
          exact ho8
        -- pair
        obtain ⟨ja, xa, ga, na, oa⟩ := inOrd_at pj (a := at') (by omega)
        obtain ⟨jk, xk, gk, nk, ok'⟩ := inOrd_at pj (a := i + 1) (by omega)
        have ek : 1 + (i : Int) = ((i + 1 : Nat) : Int) := by omega
        refine ⟨_, rfl, _, rfl, _, rfl, o, _, at', _, rfl, rfl, SqL.of (ho9 _), atI_nat ga, p, _, ja, _, rfl, rfl, SqL.of X9.nm, atI_nat na, ?_⟩
        refine ⟨_, rfl, _, rfl, _, rfl, o, _, 1 + (i : Int), _, rfl, rfl, SqL.of (ho9 _), by rw [ek]; exact atI_nat gk, p, _, jk, _, rfl, rfl, SqL.of X9.nm, atI_nat nk, (by show 2 ≤ sizeLine; decide), fun q1 nq1 => ?_⟩
        have X10 := X9.new (o := .lst [.str (S xa), .str (S xk)]) nq1
        refine ⟨_, rfl, (by show 2 ≤ sizeLine; decide), fun q2 nq2 => ?_⟩
        have X11 := X10.new (o := .lst [.int 1, .int (-1)]) nq2
        refine ⟨_, rfl, d, _, 2, rfl, X11.dk, by omega, by decide, by decide, fun H12 b b0 b1 S12 D12 => ?_⟩
        have X12 := X11.step npd ntd S12 D12
        have hq1 : H12 q1 = some (.lst [.str (S xa), .str (S xk)]) := S12 q1 _ (X9.dk.nd nq1) (by rw [upd_ne (ne_of_none upd_same nq2)]; exact upd_same)
        have hq2 : H12 q2 = some (.lst [.int 1, .int (-1)]) := S12 q2 _ (X10.dk.nd nq2) upd_same
        have ho12 : H12 o = some (.lst (js.map iV)) := S12 o _ od (by rw [upd_ne (ne_of_none (by rw [upd_ne (ne_of_none (ho9 _) nq1)]; exact ho9 _) nq2), upd_ne (ne_of_none (ho9 _) nq1)]; exact ho9 _)
        obtain ⟨v, hv, mv⟩ := atI_in (xs := [V.int 1, .int (-1)]) b0 (by simpa using b1)
        have hs : ∃ z : Int, v = .int z ∧ (z = 1 ∨ z = -1) := by
          simp only [List.mem_cons, List.not_mem_nil, or_false] at mv
          rcases mv with e | e
          · exact ⟨1, e, .inl rfl⟩
          · exact ⟨-1, e, .inr rfl⟩
        obtain ⟨z, rfl, hz⟩ := hs
        refine ⟨q2, _, b, _, rfl, rfl, SqL.of hq2, hv, z, rfl, q1, _, z, rfl, rfl, hz, SqL.of hq1, fun q3 nq3 => ?_⟩
        obtain ⟨ya, yb, ey, hab⟩ : ∃ ya yb : Nm, (if z = 1 then [V.str (S xa), .str (S xk)] else [V.str (S xa), .str (S xk)].reverse) = [.str (S ya), .str (S yb)] ∧ ((ya = xa ∧ yb = xk) ∨ (ya = xk ∧ yb = xa)) := by
          rcases hz with z1 | z1
          · exact ⟨xa, xk, by rw [if_pos z1], .inl ⟨rfl, rfl⟩⟩
          · exact ⟨xk, xa, by rw [if_neg (by rw [z1]; decide)]; rfl, .inr ⟨rfl, rfl⟩⟩
        rw [ey]
        have X13 := X12.new (o := .lst [.str (S ya), .str (S yb)]) nq3
        have ho13 : (upd H12 q3 (.lst [.str (S ya), .str (S yb)])) o = some (.lst (js.map iV)) := by
          rw [upd_ne (ne_of_none ho12 nq3)]
          exact ho12
        have tl : tvs.length = ts.length := by
          have := DtAll.len X13.al
          rwa [List.length_map] at this
        have gl := hG.len
        rw [List.length_take] at gl
        have pl := pm.length_eq
        -- ties.insert
        refine ⟨_, rfl, .inl ⟨rfl, _, SqL.of X13.tt⟩, _, rfl, _, rfl, t, _, rfl, .inl (SqL.of X13.tt), _, _, rfl, rfl, d, _, _, rfl, X13.dk, by omega, by omega, by omega, fun H14 r r0 r1 S14 D14 => ?_⟩
        have X14 := X13.step npd ntd S14 D14
        have hq3 : H14 q3 = some (.lst [.str (S ya), .str (S yb)]) := S14 q3 _ (X12.dk.nd nq3) upd_same
        have ho14 := S14 o _ od ho13
        refine ⟨_, rfl, q3, _, 0, _, rfl, rfl, SqL.of hq3, rfl, _, rfl, q3, _, 1, _, rfl, rfl, SqL.of hq3, rfl, ?_⟩
        refine ⟨_, rfl, _, rfl, d, _, kind, rfl, X14.dk, by omega, g0, g1, fun H15 lg l0 l1 S15 D15 => ?_⟩
        have X15 := X14.step npd ntd S15 D15
        have ho15 := S15 o _ od ho14
        refine ⟨(by show 3 ≤ sizeLine; decide), fun e4 ne4 => ?_⟩
        have X16 := X15.new (o := .tup [.str (S ya), .str (S yb), .int lg]) ne4
        have ho16 : (upd H15 e4 (.tup [.str (S ya), .str (S yb), .int lg])) o = some (.lst (js.map iV)) := by
          rw [upd_ne (ne_of_none ho15 ne4)]
          exact ho15
        refine ⟨t, tvs, r, _, rfl, rfl, X16.tt, sz_lt (by omega), r0, by omega, ?_⟩
        have tk : TK (upd H15 e4 (.tup [.str (S ya), .str (S yb), .int lg])) (upd (upd H15 e4 (.tup [.str (S ya), .str (S yb), .int lg])) t (.lst (tvs.take r.toNat ++ [.ref e4] ++ tvs.drop r.toNat))) := TK.mut X16.tt
        refine ⟨_, _, _, _, tvs.take r.toNat ++ [.ref e4] ++ tvs.drop r.toNat, ts.take r.toNat ++ [(ya, yb, lg)] ++ ts.drop r.toNat, es ++ [(ya, yb, lg)], rfl, ?_, perm_insert _ pm, ?_, ?_, upd_same, ?_, X16.sm.put nt0, (X16.dk.put ntd).mono (by omega)⟩
        · have e5 : (inOrd ls js).take (i + 1 + 1) = (inOrd ls js).take (i + 1) ++ [xk] := by
            rw [List.take_add_one, ok']
            rfl
          rw [e5]
          obtain ⟨la, ea⟩ := List.getElem?_eq_some_iff.mp oa
          obtain ⟨lk, ek'⟩ := List.getElem?_eq_some_iff.mp ok'
          refine Grown.leaf (a := xa) (k := lg) hG ?_ ?_ ?_ (by omega) (by omega)
          · exact List.mem_take_iff_getElem.mpr ⟨at', by omega, ea⟩
          · intro hm
            obtain ⟨j, hj, ej⟩ := List.mem_take_iff_getElem.mp hm
            have := (List.getElem_inj ond).mp (ej.trans ek'.symm)
            omega
          · rcases hab with ⟨z1, z2⟩ | ⟨z1, z2⟩ <;> rw [z1, z2]
            · exact .inl rfl
            · exact .inr rfl
        · rw [upd_ne ot]
          exact ho16
        · unfold NamesAt
          rw [upd_ne ntp]
          exact X16.nm
        · have := DtAll.ins r.toNat (DtAll.keep tk X16.al) (v := .ref e4) (d := tieD (ya, yb, lg)) (.tup (tk.tup _ _ upd_same) (.cons (.str _) (.cons (.str _) (.cons (.int _) .nil))))
          rw [List.map_append, List.map_append, List.map_take, List.map_drop]
          exact this
      · obtain ⟨x7, x9, x10, x11, tvs, ts, es, rfl, hG, pm, ho0, X0⟩ := hP
        refine ⟨_, _, _, _, tvs, ts, es, rfl, ?_, pm, X0.mono (by omega)⟩
        rwa [List.take_of_length_le (by omega)] at hG
    · obtain ⟨x7, x9, x10, x11, tvs, ts, es, rfl, hG, pm, X0⟩ := hM
      refine ⟨_, rfl, p, _, rfl, SqL.of X0.nm, fun q1 o1 nq1 od1 => ?_⟩
      have X6 := X0.new (o := .frz o1 (.tup ((ls.map S).map V.str))) nq1
      refine ⟨_, rfl, .inl ⟨t, tvs, rfl, SqL.of X6.tt, fun q2 nq2 => ?_⟩⟩
      have X7 := X6.new (o := .tup tvs) nq2
      refine ⟨(by show 2 ≤ sizeLine; decide), fun q3 nq3 => ?_⟩
      have X8 := X7.new (o := .tup [.ref q1, .ref q2]) nq3
      have it : IsTree ls ts := ⟨inOrd ls js, es, hG, pos.symm, pm⟩
      have plne : ls ≠ [] := fun z => by
        have := it.len
        rw [z] at this
        simp at this
      have hz := ((TK.new nq2).trans (TK.new (o := .tup [.ref q1, .ref q2]) nq3)).frz _ _ _ (upd_same (H := _) (a := q1) (o := .frz o1 (.tup ((ls.map S).map V.str))))
      exact q _ q3 ls ts it ok (by omega) (.tup upd_same (.cons (.tupZ rfl plne od1 hz) (.cons (.tup ((TK.new nq3).tup _ _ upd_same) X8.al) .nil))) ⟨q3, q1, q2, o1, rfl, upd_same, od1, hz⟩ X8.sm X8.dk
end
end Far

namespace Far
open PySem
open SX (S)
/-! ### ways in a tree -/
def Adj (ts : List Tie) (u v : Nm) (k : Int) : Prop := (u, v, k) ∈ ts ∨ (v, u, k) ∈ ts
theorem Adj.symm {ts : List Tie} {u v : Nm} {k : Int} (h : Adj ts u v k) : Adj ts v u k := h.elim .inr .inl
theorem Adj.perm {ts ts' : List Tie} {u v : Nm} {k : Int} (p : ts.Perm ts') (h : Adj ts u v k) : Adj ts' u v k := h.elim (fun h => .inl (p.mem_iff.mp h)) fun h => .inr (p.mem_iff.mp h)
/-- from u to v, no place twice: the places, the length -/
inductive Way (ts : List Tie) (u : Nm) : Nm → List Nm → Int → Prop
  | nil : Way ts u u [u] 0
  | snoc {v w : Nm} {p : List Nm} {L k : Int} : Way ts u v p L → Adj ts v w k → w ∉ p → Way ts u w (p ++ [w]) (L + k)
theorem Way.perm {ts ts' : List Tie} (q : ts.Perm ts') {u v : Nm} {p : List Nm} {L : Int} (h : Way ts u v p L) : Way ts' u v p L := by
  induction h with
  | nil => exact .nil
  | snoc _ ha hn ih => exact .snoc ih (ha.perm q) hn
theorem Way.last {ts : List Tie} {u v : Nm} {p : List Nm} {L : Int} (h : Way ts u v p L) : ∃ q, p = q ++ [v] := by
  cases h with
  | nil => exact ⟨[], rfl⟩
  | snoc _ _ _ => exact ⟨_, rfl⟩
theorem Way.mem {ts : List Tie} {u v : Nm} {p : List Nm} {L : Int} (h : Way ts u v p L) : v ∈ p := by
  obtain ⟨q, rfl⟩ := h.last
  simp
theorem Way.first {ts : List Tie} {u v : Nm} {p : List Nm} {L : Int} (h : Way ts u v p L) : ∃ q, p = u :: q := by
  induction h with
  | nil => exact ⟨[], rfl⟩
  | snoc _ _ _ ih =>
    obtain ⟨q, rfl⟩ := ih
    exact ⟨q ++ [_], rfl⟩
theorem Way.nodup {ts : List Tie} {u v : Nm} {p : List Nm} {L : Int} (h : Way ts u v p L) : p.Nodup := by
  induction h with
  | nil => simp
  | snoc _ _ hn ih => exact nd_snoc' ih hn
theorem Way.inside {ts : List Tie} {pl : List Nm} (ht : ∀ e ∈ ts, e.1 ∈ pl ∧ e.2.1 ∈ pl) {u v : Nm} {p : List Nm} {L : Int} (h : Way ts u v p L) (hu : u ∈ pl) : ∀ x ∈ p, x ∈ pl := by
  induction h with
  | nil =>
    intro x hx
    rw [List.mem_singleton.mp hx]
    exact hu
  | snoc _ ha _ ih =>
    intro x hx
    rcases List.mem_append.mp hx with z | z
    · exact ih x z
    · rw [List.mem_singleton.mp z]
      rcases ha with h | h
      · exact (ht _ h).2
      · exact (ht _ h).1
/-- a place on the way is come to by a way of its own -/
theorem Way.upto {ts : List Tie} {u v x : Nm} {p : List Nm} {L : Int} (h : Way ts u v p L) (hx : x ∈ p) : ∃ q M, Way ts u x q M ∧ ∀ y ∈ q, y ∈ p := by
  induction h with
  | nil =>
    rw [List.mem_singleton.mp hx]
    exact ⟨_, _, .nil, fun _ h => h⟩
  | snoc h1 ha hn ih =>
    rcases List.mem_append.mp hx with z | z
    · obtain ⟨q, M, hq, hs⟩ := ih z
      exact ⟨q, M, hq, fun y hy => List.mem_append_left _ (hs y hy)⟩
    · rw [List.mem_singleton.mp z]
      exact ⟨_, _, .snoc h1 ha hn, fun _ h => h⟩
section leaf
variable {os : List Nm} {es : List Tie} {a b : Nm} {k : Int} {e0 : Tie}
theorem adj_new (hb : ∀ e ∈ es, e.1 ≠ b ∧ e.2.1 ≠ b) (ab : a ≠ b) (he : e0 = (a, b, k) ∨ e0 = (b, a, k)) {x y : Nm} {m : Int} (h : Adj (es ++ [e0]) x y m) :
    (Adj es x y m ∧ x ≠ b ∧ y ≠ b) ∨ (x = a ∧ y = b ∧ m = k) ∨ (x = b ∧ y = a ∧ m = k) := by
  rcases h with h | h <;> rcases List.mem_append.mp h with z | z
  · exact .inl ⟨.inl z, hb _ z⟩
  · have z := List.mem_singleton.mp z
    rcases he with e | e <;> rw [e] at z <;> cases z
    · exact .inr (.inl ⟨rfl, rfl, rfl⟩)
    · exact .inr (.inr ⟨rfl, rfl, rfl⟩)
  · exact .inl ⟨.inr z, (hb _ z).2, (hb _ z).1⟩
  · have z := List.mem_singleton.mp z
    rcases he with e | e <;> rw [e] at z <;> cases z
    · exact .inr (.inr ⟨rfl, rfl, rfl⟩)
    · exact .inr (.inl ⟨rfl, rfl, rfl⟩)
theorem way_old (hb : ∀ e ∈ es, e.1 ≠ b ∧ e.2.1 ≠ b) (ab : a ≠ b) (he : e0 = (a, b, k) ∨ e0 = (b, a, k)) {u v : Nm} {p : List Nm} {L : Int} (h : Way (es ++ [e0]) u v p L) (hu : u ≠ b) :
    (v ≠ b ∧ b ∉ p ∧ Way es u v p L) ∨ (v = b ∧ ∃ q M, p = q ++ [b] ∧ L = M + k ∧ Way es u a q M) := by
  induction h with
  | nil => exact .inl ⟨hu, fun z => hu (List.mem_singleton.mp z).symm, .nil⟩
  | @snoc v w p L m h1 ha hn ih =>
    rcases ih with ⟨hv, hbp, hw⟩ | ⟨hv, q, M, hp, _, hq⟩
    · rcases adj_new hb ab he ha with ⟨ha, _, wb⟩ | ⟨e1, e2, e3⟩ | ⟨e1, _, _⟩
      · refine .inl ⟨wb, fun z => ?_, .snoc hw ha hn⟩
        rcases List.mem_append.mp z with z | z
        · exact hbp z
        · exact wb (List.mem_singleton.mp z).symm
      · subst e1 e2 e3
        exact .inr ⟨rfl, p, L, rfl, rfl, hw⟩
      · exact absurd e1 hv
    · rcases adj_new hb ab he ha with ⟨_, vb, _⟩ | ⟨e1, _, _⟩ | ⟨_, e2, _⟩
      · exact absurd hv vb
      · exact absurd (e1.symm.trans hv) ab
      · refine absurd ?_ hn
        rw [e2, hp]
        exact List.mem_append_left _ hq.mem
theorem way_from (hb : ∀ e ∈ es, e.1 ≠ b ∧ e.2.1 ≠ b) (ab : a ≠ b) (he : e0 = (a, b, k) ∨ e0 = (b, a, k)) {v : Nm} {p : List Nm} {L : Int} (h : Way (es ++ [e0]) b v p L) :
    (v = b ∧ p = [b] ∧ L = 0) ∨ (v ≠ b ∧ ∃ q M, p = b :: q ∧ L = k + M ∧ Way es a v q M) := by
  induction h with
  | nil => exact .inl ⟨rfl, rfl, rfl⟩
  | @snoc v w p L m h1 ha hn ih =>
    rcases ih with ⟨hv, hp, hL⟩ | ⟨hv, q, M, hp, hL, hq⟩
    · rcases adj_new hb ab he ha with ⟨_, vb, _⟩ | ⟨e1, _, _⟩ | ⟨_, e2, e3⟩
      · exact absurd hv vb
      · exact absurd (e1.symm.trans hv) ab
      · subst e2 e3 hp hL
        exact .inr ⟨ab, [w], 0, rfl, by omega, .nil⟩
    · have wb : w ≠ b := fun z => hn (by rw [z, hp]; simp)
      rcases adj_new hb ab he ha with ⟨ha, _, _⟩ | ⟨_, e2, _⟩ | ⟨e1, _, _⟩
      · subst hp hL
        exact .inr ⟨wb, q ++ [w], M + m, rfl, by omega, .snoc hq ha fun z => hn (List.mem_cons.mpr (.inr z))⟩
      · exact absurd e2 wb
      · exact absurd e1 hv
end leaf
theorem Grown.one_way {os : List Nm} {es : List Tie} (g : Grown os es) : ∀ {u v : Nm} {p q : List Nm} {L M : Int}, Way es u v p L → Way es u v q M → p = q ∧ L = M := by
  induction g with
  | one a =>
    intro u v p q L M h1 h2
    cases h1 with
    | nil =>
      cases h2 with
      | nil => exact ⟨rfl, rfl⟩
      | snoc _ ha _ => rcases ha with h | h <;> cases h
    | snoc _ ha _ => rcases ha with h | h <;> cases h
  | @leaf os es a b k e0 g ha hbn he k1 k2 ih =>
    intro u v p q L M h1 h2
    have hb : ∀ e ∈ es, e.1 ≠ b ∧ e.2.1 ≠ b := fun e hm => by
      obtain ⟨i1, i2, _⟩ := g.ties e hm
      exact ⟨fun z => hbn (z ▸ i1), fun z => hbn (z ▸ i2)⟩
    have ab : a ≠ b := fun z => hbn (z ▸ ha)
    by_cases hu : u = b
    · subst hu
      rcases way_from hb ab he h1 with ⟨v1, p1, l1⟩ | ⟨v1, p1, l1, e1, e2, w1⟩ <;> rcases way_from hb ab he h2 with ⟨v2, p2, l2⟩ | ⟨v2, p2, l2, e3, e4, w2⟩
      · exact ⟨p1.trans p2.symm, l1.trans l2.symm⟩
      · exact absurd v1 v2
      · exact absurd v2 v1
      · obtain ⟨z1, z2⟩ := ih w1 w2
        rw [e1, e2, e3, e4, z1, z2]
        exact ⟨rfl, rfl⟩
    · rcases way_old hb ab he h1 hu with ⟨v1, _, w1⟩ | ⟨v1, p1, l1, e1, e2, w1⟩ <;> rcases way_old hb ab he h2 hu with ⟨v2, _, w2⟩ | ⟨v2, p2, l2, e3, e4, w2⟩
      · exact ih w1 w2
      · exact absurd v2 v1
      · exact absurd v1 v2
      · obtain ⟨z1, z2⟩ := ih w1 w2
        rw [e1, e2, e3, e4, z1, z2]
        exact ⟨rfl, rfl⟩
theorem IsTree.one_way {pl : List Nm} {ts : List Tie} (h : IsTree pl ts) {u v : Nm} {p q : List Nm} {L M : Int} (h1 : Way ts u v p L) (h2 : Way ts u v q M) : p = q ∧ L = M := by
  obtain ⟨os, es, g, _, p2⟩ := h
  exact g.one_way (h1.perm p2) (h2.perm p2)
/-- what is closed by ties and holds one place holds all -/
theorem Grown.all_of {os : List Nm} {es : List Tie} (g : Grown os es) : ∀ {F : Nm → Prop}, (∃ u ∈ os, F u) → (∀ x y k, F x → Adj es x y k → F y) → ∀ v ∈ os, F v := by
  induction g with
  | one a =>
    intro F ⟨u, hu, hF⟩ _ v hv
    rw [List.mem_singleton.mp hv, ← List.mem_singleton.mp hu]
    exact hF
  | @leaf os es a b k e0 g ha hbn he k1 k2 ih =>
    intro F ⟨u, hu, hF⟩ cl v hv
    have cab : Adj (es ++ [e0]) a b k := by
      rcases he with e | e
      · exact .inl (by rw [e]; simp)
      · exact .inr (by rw [e]; simp)
    have cl' : ∀ x y m, F x → Adj es x y m → F y := fun x y m hx h => cl x y m hx (h.elim (fun z => .inl (List.mem_append_left _ z)) fun z => .inr (List.mem_append_left _ z))
    have start : ∃ w ∈ os, F w := by
      rcases List.mem_append.mp hu with z | z
      · exact ⟨u, z, hF⟩
      · rw [List.mem_singleton.mp z] at hF
        exact ⟨a, ha, cl b a k hF cab.symm⟩
    have old := ih start cl'
    rcases List.mem_append.mp hv with z | z
    · exact old v z
    · rw [List.mem_singleton.mp z]
      exact cl a b k (old a ha) cab
theorem IsTree.all_of {pl : List Nm} {ts : List Tie} (h : IsTree pl ts) {F : Nm → Prop} {u : Nm} (hu : u ∈ pl) (hF : F u) (cl : ∀ x y k, F x → Adj ts x y k → F y) : ∀ v ∈ pl, F v := by
  obtain ⟨os, es, g, p1, p2⟩ := h
  intro v hv
  exact g.all_of ⟨u, p1.mem_iff.mp hu, hF⟩ (fun x y k hx ha => cl x y k hx (ha.perm p2.symm)) v (p1.mem_iff.mp hv)
theorem IsTree.way {pl : List Nm} {ts : List Tie} (h : IsTree pl ts) {u v : Nm} (hu : u ∈ pl) (hv : v ∈ pl) : ∃ p L, Way ts u v p L := by
  refine h.all_of (F := fun v => ∃ p L, Way ts u v p L) hu ⟨_, _, .nil⟩ (fun x y k ⟨p, L, hw⟩ ha => ?_) v hv
  by_cases hy : y ∈ p
  · obtain ⟨q, M, hq, _⟩ := hw.upto hy
    exact ⟨q, M, hq⟩
  · exact ⟨_, _, .snoc hw ha hy⟩
open Classical in
/-- the way and its length -/
noncomputable def wayOf (ts : List Tie) (u v : Nm) : List Nm × Int := if h : ∃ x : List Nm × Int, Way ts u v x.1 x.2 then h.choose else ([], 0)
noncomputable def path (ts : List Tie) (u v : Nm) : List Nm := (wayOf ts u v).1
noncomputable def dist (ts : List Tie) (u v : Nm) : Int := (wayOf ts u v).2
theorem IsTree.is_way {pl : List Nm} {ts : List Tie} (h : IsTree pl ts) {u v : Nm} {p : List Nm} {L : Int} (w : Way ts u v p L) : path ts u v = p ∧ dist ts u v = L := by
  have hx : ∃ x : List Nm × Int, Way ts u v x.1 x.2 := ⟨(p, L), w⟩
  unfold path dist wayOf
  rw [dif_pos hx]
  exact h.one_way hx.choose_spec w
theorem IsTree.the_way {pl : List Nm} {ts : List Tie} (h : IsTree pl ts) {u v : Nm} (hu : u ∈ pl) (hv : v ∈ pl) : Way ts u v (path ts u v) (dist ts u v) := by
  obtain ⟨p, L, w⟩ := h.way hu hv
  obtain ⟨e1, e2⟩ := h.is_way w
  rw [e1, e2]
  exact w
/-- the way back -/
theorem Way.cons {ts : List Tie} {u v w : Nm} {p : List Nm} {L k : Int} (ha : Adj ts w u k) (h : Way ts u v p L) (hn : w ∉ p) : Way ts w v (w :: p) (k + L) := by
  induction h with
  | nil =>
    have := Way.snoc (ts := ts) (u := w) .nil ha (by simpa using fun z => hn (by rw [z]; simp))
    simpa using this
  | @snoc v x p L m h1 hb hx ih =>
    have hn1 : w ∉ p := fun z => hn (List.mem_append_left _ z)
    have hxw : x ∉ w :: p := fun z => by
      rcases List.mem_cons.mp z with z | z
      · exact hn (by rw [z]; simp)
      · exact hx z
    have := Way.snoc (ih hn1) hb hxw
    rw [← Int.add_assoc]
    exact this
theorem Way.rev {ts : List Tie} {u v : Nm} {p : List Nm} {L : Int} (h : Way ts u v p L) : Way ts v u p.reverse L := by
  induction h with
  | nil => exact .nil
  | @snoc v w p L k h1 ha hn ih =>
    rw [List.reverse_append]
    have := Way.cons ha.symm ih (fun z => hn (List.mem_reverse.mp z))
    rw [Int.add_comm L k]
    exact this
theorem IsTree.dist_symm {pl : List Nm} {ts : List Tie} (h : IsTree pl ts) {u v : Nm} (hu : u ∈ pl) (hv : v ∈ pl) : dist ts u v = dist ts v u ∧ path ts v u = (path ts u v).reverse := by
  obtain ⟨e1, e2⟩ := h.is_way (h.the_way hu hv).rev
  exact ⟨e2.symm, e1⟩
theorem IsTree.dist_self {pl : List Nm} {ts : List Tie} (h : IsTree pl ts) (u : Nm) : dist ts u u = 0 ∧ path ts u u = [u] := by
  obtain ⟨e1, e2⟩ := h.is_way (u := u) .nil
  exact ⟨e2, e1⟩
theorem Way.nonneg {ts : List Tie} (hk : ∀ e ∈ ts, 1 ≤ e.2.2) {u v : Nm} {p : List Nm} {L : Int} (h : Way ts u v p L) : 0 ≤ L ∧ (p.length : Int) ≤ L + 1 := by
  induction h with
  | nil => simp
  | @snoc v w p L k _ ha _ ih =>
    have h1 : 1 ≤ k := ha.elim (fun z => hk _ z) fun z => hk _ z
    rw [List.length_append, List.length_singleton]
    omega
section
open PySem.Spec PyProof.Rows L2
/-! ### dicts by places -/
def dkm (fs : List Nm) (f : Nm → V) : List (Key × V) := fs.map fun l => (Sum.inr (S l), f l)
theorem dkm_get {f : Nm → V} {x : Nm} : ∀ {fs : List Nm}, x ∈ fs → valV (dkm fs f) (Sum.inr (S x)) = some (f x)
  | [], h => by simp at h
  | a :: r, h => by
    show valV ((Sum.inr (S a), f a) :: dkm r f) _ = _
    by_cases e : a = x
    · subst e
      exact valV_pos rfl
    · rw [valV_neg (fun z => e (SX.S_inj (Sum.inr.inj z)))]
      refine dkm_get ?_
      rcases List.mem_cons.mp h with z | z
      · exact absurd z.symm e
      · exact z
theorem dkm_no {f : Nm → V} {x : Nm} : ∀ {fs : List Nm}, x ∉ fs → valV (dkm fs f) (Sum.inr (S x)) = none
  | [], _ => rfl
  | a :: r, h => by
    show valV ((Sum.inr (S a), f a) :: dkm r f) _ = _
    rw [valV_neg (fun z => h (List.mem_cons.mpr (.inl (SX.S_inj (Sum.inr.inj z)).symm)))]
    exact dkm_no fun z => h (List.mem_cons.mpr (.inr z))
theorem dkm_cong {f g : Nm → V} {fs : List Nm} (h : ∀ x ∈ fs, f x = g x) : dkm fs f = dkm fs g := List.map_congr_left fun a ha => by rw [h a ha]
theorem dkm_new {f : Nm → V} {x : Nm} {v : V} {fs : List Nm} (h : x ∉ fs) : putK (dkm fs f) (Sum.inr (S x)) v = dkm (fs ++ [x]) (fun z => if z = x then v else f z) := by
  rw [putK_new _ (dkm_no h)]
  unfold dkm
  rw [List.map_append]
  have e : fs.map (fun l => ((Sum.inr (S l) : Key), f l)) = fs.map (fun l => ((Sum.inr (S l) : Key), if l = x then v else f l)) := List.map_congr_left fun a ha => by rw [if_neg (fun (z : a = x) => h (z ▸ ha))]
  rw [e]
  show _ = _ ++ [((Sum.inr (S x) : Key), if x = x then v else f x)]
  rw [if_pos rfl]
theorem dkm_some {f : Nm → V} {x : Nm} {fs : List Nm} : (valV (dkm fs f) (Sum.inr (S x))).isSome = decide (x ∈ fs) := by
  by_cases h : x ∈ fs
  · rw [dkm_get h, decide_eq_true h]
    rfl
  · rw [dkm_no h, decide_eq_false h]
    rfl
theorem tkD {H : Hp} {D : Addr} {kvs : List (Key × V)} {o : HO} (h : H D = some (.dK kvs)) : TK H (upd H D o) :=
  ⟨fun b xs z => by rw [upd_ne (ne_of z h (by intro q; cases q))]; exact z, fun b u xs z => by rw [upd_ne (ne_of z h (by intro q; cases q))]; exact z⟩
/-! ### a walk through a tree: fs come to, st to be gone on from, ex being gone on from -/
structure Wk (pl : List Nm) (ts : List Tie) (u : Nm) (fs st : List Nm) (prev : Nm → Nm) (ex : Nm → Prop) : Prop where
  nd : fs.Nodup
  sub : ∀ x ∈ fs, x ∈ pl
  sti : ∀ x ∈ st, x ∈ fs
  hu : u ∈ fs
  cl : ∀ x ∈ fs, ∀ y ∈ path ts u x, y ∈ fs
  pr : ∀ x ∈ fs, x ≠ u → prev x ∈ fs ∧ path ts u x = path ts u (prev x) ++ [x]
  done : ∀ x ∈ fs, x ∉ st → ¬ ex x → ∀ y k, Adj ts x y k → y ∈ fs
theorem Wk.start {pl : List Nm} {ts : List Tie} (h : IsTree pl ts) {u : Nm} (hu : u ∈ pl) : Wk pl ts u [u] [u] (fun _ => u) (fun _ => False) := by
  refine ⟨by simp, fun x hx => ?_, fun x hx => hx, by simp, fun x hx => ?_, fun x hx n => ?_, fun x hx n => absurd hx n⟩
  · rw [List.mem_singleton.mp hx]
    exact hu
  · rw [List.mem_singleton.mp hx, (h.dist_self u).2]
    exact fun y hy => hy
  · exact absurd (List.mem_singleton.mp hx) n
theorem Wk.pop {pl : List Nm} {ts : List Tie} {u h : Nm} {fs st : List Nm} {prev : Nm → Nm} (w : Wk pl ts u fs (st ++ [h]) prev (fun _ => False)) : h ∈ fs ∧ Wk pl ts u fs st prev (fun x => x = h) := by
  refine ⟨w.sti h (by simp), w.nd, w.sub, fun x hx => w.sti x (List.mem_append_left _ hx), w.hu, w.cl, w.pr, fun x hx n ne => w.done x hx (fun z => ?_) (fun z => z)⟩
  rcases List.mem_append.mp z with z | z
  · exact n z
  · exact ne (List.mem_singleton.mp z)
theorem Wk.push {pl : List Nm} {ts : List Tie} (tr : IsTree pl ts) {u h y : Nm} {k : Int} {fs st : List Nm} {prev : Nm → Nm} {ex : Nm → Prop} (w : Wk pl ts u fs st prev ex) (hh : h ∈ fs) (ha : Adj ts h y k) (hy : y ∉ fs) :
    dist ts u y = dist ts u h + k ∧ Wk pl ts u (fs ++ [y]) (st ++ [y]) (fun z => if z = y then h else prev z) ex := by
  have wh := tr.the_way (w.sub u w.hu) (w.sub h hh)
  have wy := Way.snoc wh ha fun z => hy (w.cl h hh y z)
  obtain ⟨e1, e2⟩ := tr.is_way wy
  have yp : y ∈ pl := by
    rcases ha with z | z
    · exact (tr.ties _ z).2.1
    · exact (tr.ties _ z).1
  refine ⟨e2, nd_snoc' w.nd hy, fun x hx => ?_, fun x hx => ?_, List.mem_append_left _ w.hu, fun x hx z hz => ?_, fun x hx n => ?_, fun x hx n ne z m hz => ?_⟩
  · rcases List.mem_append.mp hx with z | z
    · exact w.sub x z
    · rw [List.mem_singleton.mp z]
      exact yp
  · rcases List.mem_append.mp hx with z | z
    · exact List.mem_append_left _ (w.sti x z)
    · exact List.mem_append_right _ z
  · rcases List.mem_append.mp hx with q | q
    · exact List.mem_append_left _ (w.cl x q z hz)
    · rw [List.mem_singleton.mp q, e1] at hz
      rcases List.mem_append.mp hz with r | r
      · exact List.mem_append_left _ (w.cl h hh z r)
      · exact List.mem_append_right _ r
  · rcases List.mem_append.mp hx with q | q
    · have xy : x ≠ y := fun e => hy (e ▸ q)
      show (if x = y then h else prev x) ∈ fs ++ [y] ∧ path ts u x = path ts u (if x = y then h else prev x) ++ [x]
      rw [if_neg xy]
      exact ⟨List.mem_append_left _ (w.pr x q n).1, (w.pr x q n).2⟩
    · have xy := List.mem_singleton.mp q
      show (if x = y then h else prev x) ∈ fs ++ [y] ∧ path ts u x = path ts u (if x = y then h else prev x) ++ [x]
      rw [if_pos xy, xy]
      exact ⟨List.mem_append_left _ hh, e1⟩
  · rcases List.mem_append.mp hx with q | q
    · exact List.mem_append_left _ (w.done x q (fun r => n (List.mem_append_left _ r)) ne z m hz)
    · exact absurd (List.mem_append_right _ q) n
theorem Wk.shut {pl : List Nm} {ts : List Tie} {u h : Nm} {fs st : List Nm} {prev : Nm → Nm} (w : Wk pl ts u fs st prev (fun x => x = h)) (hd : ∀ y k, Adj ts h y k → y ∈ fs) : Wk pl ts u fs st prev (fun _ => False) :=
  ⟨w.nd, w.sub, w.sti, w.hu, w.cl, w.pr, fun x hx n _ y k ha => by
    by_cases e : x = h
    · rw [e] at ha
      exact hd y k ha
    · exact w.done x hx n e y k ha⟩
theorem Wk.all {pl : List Nm} {ts : List Tie} (tr : IsTree pl ts) {u : Nm} {fs : List Nm} {prev : Nm → Nm} (w : Wk pl ts u fs [] prev (fun _ => False)) : ∀ x, x ∈ fs ↔ x ∈ pl := fun x =>
  ⟨w.sub x, fun hx => tr.all_of (F := fun z => z ∈ fs) (w.sub u w.hu) w.hu (fun a b k ha hab => w.done a ha (by simp) (fun z => z) b k hab) x hx⟩
structure Fine (pl : List Nm) (ts : List Tie) : Prop where
  tree : IsTree pl ts
  ok : ∀ l ∈ pl, NameOk l
  len : pl.length ≤ 1000
theorem Fine.okT {pl : List Nm} {ts : List Tie} (F : Fine pl ts) {e : Tie} (he : e ∈ ts) : NameOk e.1 ∧ NameOk e.2.1 := by
  obtain ⟨i1, i2, _⟩ := F.tree.ties e he
  exact ⟨F.ok _ i1, F.ok _ i2⟩
theorem Fine.ne {pl : List Nm} {ts : List Tie} (F : Fine pl ts) : pl ≠ [] := fun z => by
  have := F.tree.len
  rw [z] at this
  simp at this
theorem dt_pair {H : Hp} {v : V} {d e : PyData} (h : Dt H v (.tuple [d, e])) (ne : ∀ l : Nm, e ≠ strD l) : ∃ (a : Addr) (x y : V), v = .ref a ∧ H a = some (.tup [x, y]) ∧ Dt H x d ∧ Dt H y e := by
  cases h with
  | tup ha hs =>
    cases hs with
    | cons h1 hr =>
      cases hr with
      | cons h2 hn =>
        cases hn
        exact ⟨_, _, _, rfl, ha, h1, h2⟩
  | @tupZ a pl _ o e _ _ _ =>
    exfalso
    cases pl with
    | nil => cases e
    | cons l r =>
      cases r with
      | nil => cases e
      | cons l2 r2 => exact ne l2 (List.cons.inj (List.cons.inj e).2).1
theorem dt_tup {H : Hp} {v : V} {ds : List PyData} (h : Dt H v (.tuple ds)) (ne : ds ≠ [] → ∃ d ∈ ds, ∀ l : Nm, d ≠ strD l) : ∃ (a : Addr) (xs : List V), v = .ref a ∧ H a = some (.tup xs) ∧ DtAll H xs ds := by
  cases h with
  | tup ha hs => exact ⟨_, _, rfl, ha, hs⟩
  | @tupZ a pl _ o e n _ _ =>
    exfalso
    obtain ⟨d, hd, no⟩ := ne (by rw [e]; simpa using n)
    rw [e] at hd
    obtain ⟨l, _, z⟩ := List.mem_map.mp hd
    exact no l z.symm
theorem dt_names {H : Hp} {v : V} {pl : List Nm} (h : Dt H v (.tuple (pl.map strD))) : ∃ a : Addr, v = .ref a ∧ TupAt H a ((pl.map S).map V.str) := by
  have inj : ∀ {p q : List Nm}, p.map strD = q.map strD → p = q := by
    intro p
    induction p with
    | nil =>
      intro q e
      cases q with
      | nil => rfl
      | cons _ _ => cases e
    | cons a r ih =>
      intro q e
      cases q with
      | nil => cases e
      | cons b t =>
        have e' := List.cons.inj e
        have h1 : S a = S b := PyData.str.inj e'.1
        rw [SX.S_inj h1, ih e'.2]
  generalize hd : pl.map strD = ds at h
  cases h with
  | tup ha hs =>
    subst hd
    rw [DtAll.strs hs] at ha
    exact ⟨_, rfl, .inl ha⟩
  | @tupZ a pl2 _ o e n d ha =>
    rw [← inj (hd.trans e)] at ha
    exact ⟨_, rfl, .inr ⟨o, d, ha⟩⟩
theorem tie_no (e : Tie) (l : Nm) : tieD e ≠ strD l := fun z => nomatch z
/-- a tree in the heap: its parts -/
theorem dt_tree {H : Hp} {v : V} {pl : List Nm} {ts : List Tie} (h : Dt H v (treeD pl ts)) : ∃ (t a b : Addr) (vs : List V), v = .ref t ∧ H t = some (.tup [.ref a, .ref b]) ∧ TupAt H a ((pl.map S).map V.str) ∧ H b = some (.tup vs) ∧ DtAll H vs (ts.map tieD) := by
  obtain ⟨t, x, y, rfl, ht, hx, hy⟩ := dt_pair h fun l z => nomatch z
  obtain ⟨a, rfl, ha⟩ := dt_names hx
  obtain ⟨b, vs, rfl, hb, hv⟩ := dt_tup hy fun n => by
    cases ts with
    | nil => exact absurd rfl n
    | cons e r => exact ⟨tieD e, List.mem_cons_self .., tie_no e⟩
  exact ⟨t, a, b, vs, rfl, ht, ha, hb, hv⟩
theorem dt_tie {H : Hp} {v : V} {e : Tie} (h : Dt H v (tieD e)) : ∃ t : Addr, v = .ref t ∧ H t = some (.tup [.str (S e.1), .str (S e.2.1), .int e.2.2]) := by
  obtain ⟨t, xs, rfl, ht, hs⟩ := dt_tup h fun _ => ⟨.int e.2.2, by simp [tieD], fun l z => nomatch z⟩
  cases hs with
  | cons h1 hr =>
    cases hr with
    | cons h2 hr =>
      cases hr with
      | cons h3 hr =>
        cases hr
        cases h1
        cases h2
        cases h3
        exact ⟨t, rfl, ht⟩
end
end Far

namespace Far
open PySem PySem.Spec PyProof.Rows L2
section
variable {X : Cx}
/-- name = {k: v for ..} on one line, the name a local one -/
theorem ps_setDc {i : Nat} {y : Str} {py spos pos : Pos} {kx vx tg iter : Expr} {ifs : List Expr} {scope : Scope} {own : List (Str × Nat)} {wi : TI} {g : TG} {tt : TT} {tk tv : TE}
    (hc : X.calm = true) (hN : X.N.Nodup) (hy : X.N[i]? = some y) (hyl : X.env.scope.names.lookup y = some .local) (hsw : swapsWith (.DictComp kx vx [⟨tg, iter, ifs, 0⟩] scope pos) (some (.Name y py)) spos.line X.env = pure true)
    (hi : PI X tg iter wi) (ok : BlkOk X.N X.env.scope scope own)
    (hg : ∀ (s : Shared) (H : Hp) (C : Addr) (l : List (Str × Addr)) (fp : List Addr), PG (X.blk s H scope (compEnvC scope l C X.env) fp) tg g)
    (ht : ∀ (s : Shared) (H : Hp) (C : Addr) (l : List (Str × Addr)) (fp : List Addr), PTs (X.blk s H scope (compEnvC scope l C X.env) fp) ifs tt)
    (hk : ∀ (s : Shared) (H : Hp) (C : Addr) (l : List (Str × Addr)) (fp : List Addr), PE (X.blk s H scope (compEnvC scope l C X.env) fp) kx tk)
    (hv : ∀ (s : Shared) (H : Hp) (C : Addr) (l : List (Str × Addr)) (fp : List Addr), PE (X.blk s H scope (compEnvC scope l C X.env) fp) vx tv)
    (hs : ∀ x, foldedSetIterable iter X.env x = pure x := by intro _; rfl) : PS X (.Assign [.Name y py] (.DictComp kx vx [⟨tg, iter, ifs, 0⟩] scope pos) spos) (tAsg (tDc wi g tt tk tv (own.map (·.2))) (gName i)) := by
  refine ⟨fun pins s σ H D I h => ?_⟩
  replace h : tDc wi g tt tk tv (own.map (·.2)) σ H (fun v H1 => gName i v σ H1 D.nx) := h
  rw [exec_Assign_Name_used _ _ _ _ hsw]
  refine wpAny_bind (wpAny_standAt (wpAny_bind ?_))
  show wpAny _ X.A (do let _ ← comprehension (.DictComp kx vx [⟨tg, iter, ifs, 0⟩] scope pos) scope X.env (firstIterPos [⟨tg, iter, ifs, 0⟩] pos) newDict false (eval iter X.env) (some (assign (.Name y py) X.env))) _ _ s
  refine wpAny_bind (thn (dc_core (Qf := fun _ s1 => SP X pins D .next s1) hc hN I hi ok hg ht hk hv hs h fun L C s1 m H1 I1 q hn f => ?_) fun _ s1 z => wpAny_pure (wpAny_pure z))
  show wpAny _ _ (assign (.Name y py) X.env (.ref L)) _ _ _
  obtain ⟨f0, f1, f2, f3, f4, f5⟩ := f
  refine wpAny_assign_Name (store_ok2 (v := V.ref L) I1 hN hy (.inl hyl) rfl (fun s2 I2 ⟨a, sb, ha⟩ => ⟨m, hn.sameBut sb ?_, fun h3 sb3 => ?_⟩) (.inr hyl))
  · rcases ha with z | z
    · exact z ▸ f1
    · exact fun e => f4 y a z e.symm
  · exact ⟨_, H1, I2.turned (t' := s2.toks) (fun b o hb e => (sb3.2 b hb).trans e) f0 f1 f3 f4 f5, q⟩
theorem swD_true {kx vx : Expr} {gs : List Comprehension} {scope : Scope} {pos py : Pos} {y : Str} {l : Nat} {env : Env} (hk : env.scope.kind = .function) (hy : env.scope.names.lookup y = some .local) (hl : (py.line == pos.line) = true)
    (ha : (scope.names.any fun (n, k) => n == y && (k == .local || k == .cell)) = false) : swapsWith (.DictComp kx vx gs scope pos) (some (.Name y py)) l env = pure true := by
  have e1 : env.kindOf y = some .local := hy
  have e2 : env.blockKind = .function := by unfold Env.blockKind; rw [hk]; rfl
  unfold swapsWith
  simp only [e2, e1, ha, Expr.pos, hl]
  rfl
end
end Far

namespace Far
open PySem PySem.Spec PyProof.Rows L2
open C8 (pss_cut tCut)
open SX (S)
structure TxtW (mg : Str → Option Value) : Prop where
  tuple : mg "tuple" = none
/-! ### the ties of each place -/
def pairD (x : Nm × Int) : PyData := .tuple [.str (S x.1), .int x.2]
theorem dt_pairD {H : Hp} {v : V} {x : Nm × Int} (h : Dt H v (pairD x)) : ∃ t : Addr, v = .ref t ∧ H t = some (.tup [.str (S x.1), .int x.2]) := by
  obtain ⟨t, a, b, rfl, ht, h1, h2⟩ := dt_pair h fun l z => nomatch z
  cases h1
  cases h2
  exact ⟨t, rfl, ht⟩
/-- at D: for each place a list of its own, of the places tied to it with the ties' lengths -/
structure BesideAt (H : Hp) (D : Addr) (pl : List Nm) (ad : Nm → Addr) (nb : Nm → List (Nm × Int)) : Prop where
  dict : H D = some (.dK (dkm pl fun l => .ref (ad l)))
  each : ∀ l ∈ pl, ∃ vs, H (ad l) = some (.lst vs) ∧ DtAll H vs ((nb l).map pairD)
  inj : ∀ l ∈ pl, ∀ m ∈ pl, ad l = ad m → l = m
def nbAdd (nb : Nm → List (Nm × Int)) (a : Nm) (x : Nm × Int) : Nm → List (Nm × Int) := fun l => if l = a then nb l ++ [x] else nb l
theorem BesideAt.keep {H H' : Hp} {D : Addr} {pl : List Nm} {ad : Nm → Addr} {nb : Nm → List (Nm × Int)} (b : BesideAt H D pl ad nb) (s : Same H H') : BesideAt H' D pl ad nb :=
  ⟨s _ _ b.dict, fun l hl => let ⟨vs, h1, h2⟩ := b.each l hl; ⟨vs, s _ _ h1, DtAll.keep (TK.of s) h2⟩, b.inj⟩
theorem BesideAt.ne {H : Hp} {D : Addr} {pl : List Nm} {ad : Nm → Addr} {nb : Nm → List (Nm × Int)} (b : BesideAt H D pl ad nb) {l : Nm} (hl : l ∈ pl) : ad l ≠ D := by
  obtain ⟨vs, h, _⟩ := b.each l hl
  exact ne_of h b.dict (by intro z; cases z)
theorem BesideAt.add {H : Hp} {D : Addr} {pl : List Nm} {ad : Nm → Addr} {nb : Nm → List (Nm × Int)} (b : BesideAt H D pl ad nb) {a : Nm} (ha : a ∈ pl) {x : Nm × Int} {v : V} {vs : List V} (hv : Dt H v (pairD x)) (hvs : H (ad a) = some (.lst vs)) :
    BesideAt (upd H (ad a) (.lst (vs ++ [v]))) D pl ad (nbAdd nb a x) := by
  have tk : TK H (upd H (ad a) (.lst (vs ++ [v]))) := TK.mut hvs
  refine ⟨by rw [upd_ne (b.ne ha).symm]; exact b.dict, fun l hl => ?_, b.inj⟩
  by_cases e : l = a
  · subst e
    obtain ⟨ws, h1, h2⟩ := b.each l hl
    rw [hvs] at h1
    cases h1
    refine ⟨_, upd_same, ?_⟩
    unfold nbAdd
    rw [if_pos rfl, List.map_append]
    exact DtAll.app (DtAll.keep tk h2) (.cons (Dt.keep tk hv) .nil)
  · obtain ⟨ws, h1, h2⟩ := b.each l hl
    refine ⟨ws, by rw [upd_ne (fun z => e (b.inj l hl a ha z))]; exact h1, ?_⟩
    unfold nbAdd
    rw [if_neg e]
    exact DtAll.keep tk h2
/-- the ties of a place, as the program takes them down -/
def nbOf : List Tie → Nm → List (Nm × Int) := List.foldl (fun nb e => nbAdd (nbAdd nb e.1 (e.2.1, e.2.2)) e.2.1 (e.1, e.2.2)) (fun _ => [])
theorem nbOf_snoc (ts : List Tie) (e : Tie) : nbOf (ts ++ [e]) = nbAdd (nbAdd (nbOf ts) e.1 (e.2.1, e.2.2)) e.2.1 (e.1, e.2.2) := by
  unfold nbOf
  rw [List.foldl_append]
  rfl
theorem list_rec_snoc {α : Type} {P : List α → Prop} (h0 : P []) (h1 : ∀ l x, P l → P (l ++ [x])) : ∀ l, P l := by
  intro l
  have : ∀ r : List α, P r.reverse := by
    intro r
    induction r with
    | nil => exact h0
    | cons x r ih =>
      rw [List.reverse_cons]
      exact h1 _ _ ih
  have q := this l.reverse
  rwa [List.reverse_reverse] at q
theorem nbAdd_mem {nb : Nm → List (Nm × Int)} {a l : Nm} {x y : Nm × Int} : y ∈ nbAdd nb a x l ↔ y ∈ nb l ∨ (l = a ∧ y = x) := by
  unfold nbAdd
  by_cases e : l = a
  · rw [if_pos e, List.mem_append, List.mem_singleton]
    simp [e]
  · rw [if_neg e]
    simp [e]
theorem nbOf_adj (ts : List Tie) : ∀ (l x : Nm) (k : Int), (x, k) ∈ nbOf ts l ↔ Adj ts l x k := by
  induction ts using list_rec_snoc with
  | h0 =>
    intro l x k
    constructor
    · intro h
      cases h
    · intro h
      rcases h with h | h <;> cases h
  | h1 ts e ih =>
    intro l x k
    rw [nbOf_snoc, nbAdd_mem, nbAdd_mem, ih]
    obtain ⟨a, b, m⟩ := e
    constructor
    · rintro ((h | ⟨h1, h2⟩) | ⟨h1, h2⟩)
      · exact h.elim (fun z => .inl (List.mem_append_left _ z)) fun z => .inr (List.mem_append_left _ z)
      · cases h2
        exact .inl (by rw [h1]; simp)
      · cases h2
        exact .inr (by rw [h1]; simp)
    · rintro (h | h) <;> rcases List.mem_append.mp h with z | z
      · exact .inl (.inl (.inl z))
      · have z := List.mem_singleton.mp z
        cases z
        exact .inl (.inr ⟨rfl, rfl⟩)
      · exact .inl (.inl (.inr z))
      · have z := List.mem_singleton.mp z
        cases z
        exact .inr ⟨rfl, rfl⟩
theorem nbAdd_len {nb : Nm → List (Nm × Int)} {a l : Nm} {x : Nm × Int} : (nbAdd nb a x l).length ≤ (nb l).length + 1 := by
  unfold nbAdd
  split
  · rw [List.length_append]
    exact Nat.le_refl _
  · omega
theorem nbOf_len (ts : List Tie) : ∀ l, (nbOf ts l).length ≤ 2 * ts.length := by
  induction ts using list_rec_snoc with
  | h0 => intro l; exact Nat.zero_le _
  | h1 ts e ih =>
    intro l
    rw [nbOf_snoc, List.length_append, List.length_singleton]
    have h1 := nbAdd_len (nb := nbAdd (nbOf ts) e.1 (e.2.1, e.2.2)) (a := e.2.1) (l := l) (x := (e.1, e.2.2))
    have h2 := nbAdd_len (nb := nbOf ts) (a := e.1) (l := l) (x := (e.2.1, e.2.2))
    have h3 := ih l
    omega
/-- another object changes -/
theorem BesideAt.off {H : Hp} {D g : Addr} {o : HO} {pl : List Nm} {ad : Nm → Addr} {nb : Nm → List (Nm × Int)} (b : BesideAt H D pl ad nb) (tk : TK H (upd H g o)) (n : D ≠ g) (na : ∀ l ∈ pl, ad l ≠ g) : BesideAt (upd H g o) D pl ad nb :=
  ⟨by rw [upd_ne n]; exact b.dict, fun l hl => let ⟨vs, h1, h2⟩ := b.each l hl; ⟨vs, by rw [upd_ne (na l hl)]; exact h1, DtAll.keep tk h2⟩, b.inj⟩
abbrev s_ties_of_each : Stmt := topS 7
abbrev N_ties_of_each : List Str := ["tree", "places", "ties", "beside", "one", "other", "length", "place"]
theorem sc_ties_of_each : FnScope N_ties_of_each ["tree"] (defScope s_ties_of_each) := ⟨rfl, rfl, rfl, by decide +kernel, rfl, by decide +kernel, by decide +kernel⟩
section
variable {P : Program} {w : World} {K : PySem.W.Frag} {mg : Str → Option Value} {base : Heap}
def spTies : Sp := fun vs H Q _ => ∃ (v : V) (pl : List Nm) (ts : List Tie), vs = [v] ∧ Dt H v (treeD pl ts) ∧ Fine pl ts ∧ ∀ (H' : Hp) (D : Addr) (ad : Nm → Addr), Same H H' → H D = none → BesideAt H' D pl ad (nbOf ts) → (∀ l ∈ pl, H (ad l) = none) → Q (.ref D) H'
theorem ok_ties_of_each {f : Addr} {fd : FuncData} (F : Fun K "_ties_of_each" "_ties_of_each" s_ties_of_each f fd) : FnOk P w K mg base CX0 1 f fd ["tree"] spTies := by
  refine F.ok sc_ties_of_each (fun vs H Q E h => ?_) (fun cdv A outer s H vs Q E hr h => ?_)
  · obtain ⟨v, pl, ts, rfl, _⟩ := h
    rfl
  · obtain ⟨v, pl, ts, rfl, hd, fine, q⟩ := h
    obtain ⟨t, a, b, vs, rfl, ht, ha, hb, hA⟩ := dt_tree hd
    refine ⟨_, (pss_cons (ps_asg (pv 0) (pg_tup rfl (pgs_cons (pg_name (i := 1) sc_ties_of_each.nd rfl (.inl rfl)) (pgs_cons (pg_name (i := 2) sc_ties_of_each.nd rfl (.inl rfl)) pgs_nil))))
      (pss_cons (ps_setDc (i := 3) (own := [("place", 7)]) (g := gName 7) (tt := tYes) rfl sc_ties_of_each.nd rfl rfl (swD_true rfl rfl rfl (by decide +kernel)) (pi_tup (pv 1)) (blkOk_by (N := N_ties_of_each) (sc := defScope s_ties_of_each) (by decide +kernel)) (fun _ _ _ _ _ => pg_name (i := 7) sc_ties_of_each.nd rfl (Or.inl rfl)) (fun _ _ _ _ _ => pts_nil) (fun _ _ _ _ _ => (pv 7)) (fun _ _ _ _ _ => (pe_lst pa_nil)))
      (pss_cut (ps_for PassesOwn.never rfl (pi_tup (pv 2)) (pg_tup rfl (pgs_cons (pg_name (i := 4) sc_ties_of_each.nd rfl (.inl rfl)) (pgs_cons (pg_name (i := 5) sc_ties_of_each.nd rfl (.inl rfl)) (pgs_cons (pg_name (i := 6) sc_ties_of_each.nd rfl (.inl rfl)) pgs_nil))))
        (pss_cons (ps_expr (pe_bm PySem.F.plainAttrs_list PySem.F.slot_list_append PySem.F.type_list_append mt_append (pe_dget (hu_of hr) (pv 3) (pv 4) (fun _ _ => rfl)) (pa_cons (pe_tup (pa_cons (pv 5) (pa_cons (pv 6) pa_nil))) pa_nil)))
        (pss_one (ps_expr (pe_bm PySem.F.plainAttrs_list PySem.F.slot_list_append PySem.F.type_list_append mt_append (pe_dget (hu_of hr) (pv 3) (pv 5) (fun _ _ => rfl)) (pa_cons (pe_tup (pa_cons (pv 4) (pa_cons (pv 6) pa_nil))) pa_nil))))))
      (pss_one (ps_ret (pv 3)))))), ?_⟩
    have nd := fine.tree.nodup
    have pl1 := fine.len
    have len := fine.tree.len
    have vl : vs.length = ts.length := by
      have := DtAll.len hA
      rwa [List.length_map] at this
    refine ⟨_, rfl, t, _, rfl, SqT.of ht, rfl, _, _, rfl, _, _, rfl, rfl, ?_⟩
    refine ⟨_, rfl, a, rfl, ⟨_, ha.sq⟩, fun D nD => ?_⟩
    have Da : D ≠ a := (ha.ne nD).symm
    refine dc_tup (K := K) (a := a) (xs := (pl.map S).map V.str) (fun i H' => ∃ ad : Nm → Addr, Same H H' ∧ BesideAt H' D (pl.take i) ad (fun _ => []) ∧ ∀ l ∈ pl.take i, H (ad l) = none) ⟨fun _ => 0, same_new (Same.refl H) nD, ⟨upd_same, fun l hl => (by cases hl), fun l hl => (by cases hl)⟩, fun l hl => (by cases hl)⟩ (fun i H' _ hP => ?_) (fun i x H' hi hP => ?_) (fun H' hP => ?_)
    · obtain ⟨_, sm, _⟩ := hP
      exact (ha.same sm).sq
    · obtain ⟨ad, sm, bs, fr⟩ := hP
      rw [List.getElem?_map, List.getElem?_map] at hi
      cases el : pl[i]? with
      | none =>
        rw [el] at hi
        cases hi
      | some l =>
        rw [el] at hi
        have ex : x = .str (S l) := (Option.some.inj hi).symm
        subst ex
        have ln : l ∉ pl.take i := fun hm => by
          obtain ⟨j, hj, ej⟩ := List.mem_take_iff_getElem.mp hm
          obtain ⟨hi', ei⟩ := List.getElem?_eq_some_iff.mp el
          have := (List.getElem_inj nd).mp (ej.trans ei.symm)
          omega
        have et : pl.take (i + 1) = pl.take i ++ [l] := by
          rw [List.take_add_one, el]
          rfl
        refine ⟨rfl, _, rfl, Nat.zero_le _, fun g ng => ?_⟩
        have gD : g ≠ D := (ne_of_none bs.dict ng).symm
        have hD : (upd H' g (.lst [])) D = some (.dK (dkm (pl.take i) fun l => .ref (ad l))) := by
          rw [upd_ne gD.symm]
          exact bs.dict
        refine ⟨_, Sum.inr (S l), rfl, hD, by unfold dkm; rw [List.length_map, List.length_take]; exact sz_lt (by omega), ?_⟩
        rw [dkm_new ln, et]
        have adg : ∀ m ∈ pl.take i, ad m ≠ g := fun m hm => by
          obtain ⟨ws, h1, _⟩ := bs.each m hm
          exact ne_of_none h1 ng
        refine ⟨fun z => if z = l then g else ad z, same_put (same_new sm ng) nD, ⟨?_, fun m hm => ?_, fun m hm m' hm' => ?_⟩, fun m hm => ?_⟩
        · rw [upd_same]
          refine congrArg (fun z => some (HO.dK z)) (dkm_cong fun z _ => ?_)
          by_cases e : z = l <;> simp [e]
        · rcases List.mem_append.mp hm with z | z
          · have ml : m ≠ l := fun e => ln (e ▸ z)
            obtain ⟨ws, h1, h2⟩ := bs.each m z
            refine ⟨ws, ?_, DtAll.keep ((TK.new ng).trans (tkD hD)) h2⟩
            rw [if_neg ml, upd_ne (bs.ne z), upd_ne (adg m z)]
            exact h1
          · rw [List.mem_singleton.mp z, if_pos rfl]
            exact ⟨[], by rw [upd_ne gD]; exact upd_same, .nil⟩
        · rcases List.mem_append.mp hm with z | z <;> rcases List.mem_append.mp hm' with y | y
          · have ml : m ≠ l := fun e => ln (e ▸ z)
            have ml' : m' ≠ l := fun e => ln (e ▸ y)
            rw [if_neg ml, if_neg ml']
            exact bs.inj m z m' y
          · have ml : m ≠ l := fun e => ln (e ▸ z)
            rw [if_neg ml, List.mem_singleton.mp y, if_pos rfl]
            exact fun e => absurd e (adg m z)
          · have ml' : m' ≠ l := fun e => ln (e ▸ y)
            rw [if_neg ml', List.mem_singleton.mp z, if_pos rfl]
            exact fun e => absurd e.symm (adg m' y)
          · rw [List.mem_singleton.mp z, List.mem_singleton.mp y]
            exact fun _ => rfl
        · rcases List.mem_append.mp hm with z | z
          · have ml : m ≠ l := fun e => ln (e ▸ z)
            show H (if m = l then g else ad m) = none
            rw [if_neg ml]
            exact fr m z
          · rw [List.mem_singleton.mp z]
            show H (if l = l then g else ad l) = none
            rw [if_pos rfl]
            exact sm.free ng
    · obtain ⟨ad, sm, bs, fr⟩ := hP
      rw [List.length_map, List.length_map, List.take_length] at bs fr
      refine ⟨fun σ2 H2 => ∃ x4 x5 x6, σ2 = [some (.ref t), some (.ref a), some (.ref b), some (.ref D), x4, x5, x6, none] ∧ Same H H2 ∧ BesideAt H2 D pl ad (nbOf ts), ?_, fun σ2 H2 hM => ?_⟩
      · refine ⟨_, rfl, b, rfl, ⟨_, SqT.of (sm _ _ hb)⟩, for_tup (K := K) (a := b) (xs := vs) (fun i σ2 H2 => ∃ x4 x5 x6, σ2 = [some (.ref t), some (.ref a), some (.ref b), some (.ref D), x4, x5, x6, none] ∧ Same H H2 ∧ BesideAt H2 D pl ad (nbOf (ts.take i)))
          ⟨none, none, none, rfl, sm, bs⟩ (fun i σ2 H2 _ hP => ?_) (fun i x σ2 H2 hi hP => ?_) (fun σ2 H2 hP => ?_)⟩
        · obtain ⟨_, _, _, _, sm, _⟩ := hP
          exact SqT.of (sm _ _ hb)
        · obtain ⟨x4, x5, x6, rfl, sm2, bs2⟩ := hP
          obtain ⟨d, hd, hx⟩ := DtAll.get hA hi
          rw [List.getElem?_map] at hd
          cases ee : ts[i]? with
          | none =>
            rw [ee] at hd
            cases hd
          | some e =>
            rw [ee] at hd
            have ed : d = tieD e := (Option.some.inj hd).symm
            subst ed
            obtain ⟨u, rfl, hu⟩ := dt_tie hx
            have em : e ∈ ts := List.mem_of_getElem? ee
            obtain ⟨i1, i2, k1, k2⟩ := fine.tree.ties e em
            have et : ts.take (i + 1) = ts.take i ++ [e] := by
              rw [List.take_add_one, ee]
              rfl
            have tl : (ts.take i).length ≤ 1000 := by
              rw [List.length_take]
              omega
            refine ⟨u, _, rfl, SqT.of (sm2 _ _ hu), rfl, _, _, rfl, _, _, rfl, _, _, rfl, rfl, ?_⟩
            -- beside[one].append
            obtain ⟨w1, g1, g2⟩ := bs2.each e.1 i1
            have l1 : w1.length = (nbOf (ts.take i) e.1).length := by
              have := DtAll.len g2
              rwa [List.length_map] at this
            have l1' := nbOf_len (ts.take i) e.1
            refine ⟨_, rfl, _, rfl, D, .ref (ad e.1), rfl, by rw [← dkm_get (f := fun l => V.ref (ad l)) i1]; exact DGet.k (k := Sum.inr (S e.1)) bs2.dict, .inl ⟨rfl, _, SqL.of g1⟩, _, rfl, _, rfl, (by show 2 ≤ sizeLine; decide), fun p np => ?_⟩
            have bs3 := bs2.keep (same_new (o := .tup [.str (S e.2.1), .int e.2.2]) (Same.refl H2) np)
            have g1' : (upd H2 p (.tup [.str (S e.2.1), .int e.2.2])) (ad e.1) = some (.lst w1) := by
              rw [upd_ne (ne_of_none g1 np)]
              exact g1
            refine ⟨_, _, _, rfl, rfl, g1', sz_lt (by omega), ?_⟩
            have bs4 := bs3.add i1 (x := (e.2.1, e.2.2)) (v := .ref p) (.tup upd_same (.cons (.str _) (.cons (.int _) .nil))) g1'
            have sm4 : Same H (upd (upd H2 p (.tup [.str (S e.2.1), .int e.2.2])) (ad e.1) (.lst (w1 ++ [.ref p]))) := same_put (same_new sm2 np) (fr _ i1)
            generalize upd (upd H2 p (.tup [.str (S e.2.1), .int e.2.2])) (ad e.1) (.lst (w1 ++ [.ref p])) = H4 at bs4 sm4
            -- beside[other].append
            obtain ⟨w2, g3, g4⟩ := bs4.each e.2.1 i2
            have l2 : w2.length = (nbAdd (nbOf (ts.take i)) e.1 (e.2.1, e.2.2) e.2.1).length := by
              have := DtAll.len g4
              rwa [List.length_map] at this
            have l2' := nbOf_len (ts.take i) e.2.1
            have l2'' := nbAdd_len (nb := nbOf (ts.take i)) (a := e.1) (l := e.2.1) (x := (e.2.1, e.2.2))
            refine ⟨_, rfl, _, rfl, D, .ref (ad e.2.1), rfl, by rw [← dkm_get (f := fun l => V.ref (ad l)) i2]; exact DGet.k (k := Sum.inr (S e.2.1)) bs4.dict, .inl ⟨rfl, _, SqL.of g3⟩, _, rfl, _, rfl, (by show 2 ≤ sizeLine; decide), fun p' np' => ?_⟩
            have bs5 := bs4.keep (same_new (o := .tup [.str (S e.1), .int e.2.2]) (Same.refl H4) np')
            have g3' : (upd H4 p' (.tup [.str (S e.1), .int e.2.2])) (ad e.2.1) = some (.lst w2) := by
              rw [upd_ne (ne_of_none g3 np')]
              exact g3
            refine ⟨_, _, _, rfl, rfl, g3', sz_lt (by omega), ?_⟩
            have bs6 := bs5.add i2 (x := (e.1, e.2.2)) (v := .ref p') (.tup upd_same (.cons (.str _) (.cons (.int _) .nil))) g3'
            refine ⟨_, _, _, rfl, same_put (same_new sm4 np') (fr _ i2), ?_⟩
            rw [et, nbOf_snoc]
            exact bs6
        · obtain ⟨x4, x5, x6, rfl, sm2, bs2⟩ := hP
          rw [vl, List.take_length] at bs2
          exact ⟨_, _, _, rfl, sm2, bs2⟩
      · obtain ⟨x4, x5, x6, rfl, sm2, bs2⟩ := hM
        exact ⟨_, rfl, q H2 D ad sm2 nD bs2 fr⟩
end
end Far

namespace Far
open PySem PySem.Spec PyProof.Rows L2
open C8 (pss_cut tCut)
open SX (S)
/-! ### a walk through a tree: fs come to, st to be gone on from, ex being gone on from -/
abbrev s_walk_from : Stmt := topS 6
abbrev N_walk_from : List Str := ["tree", "start", "beside", "back", "lengths", "ahead", "here", "place", "length"]
theorem sc_walk_from : FnScope N_walk_from ["tree", "start"] (defScope s_walk_from) := ⟨rfl, rfl, rfl, by decide +kernel, rfl, by decide +kernel, by decide +kernel⟩
section
variable {P : Program} {w : World} {K : PySem.W.Frag} {mg : Str → Option Value} {base : Heap}
/-- what a walk from u tells, at q -/
structure Walked (H : Hp) (q bk ln : Addr) (pl : List Nm) (ts : List Tie) (u : Nm) (fs : List Nm) (prev : Nm → Nm) : Prop where
  pair : H q = some (.tup [.ref bk, .ref ln])
  back : H bk = some (.dK (dkm fs fun x => .str (S (prev x))))
  lens : H ln = some (.dK (dkm fs fun x => .int (dist ts u x)))
  all : ∀ x, x ∈ fs ↔ x ∈ pl
  pr : ∀ x ∈ fs, x ≠ u → prev x ∈ fs ∧ path ts u x = path ts u (prev x) ++ [x]
def spWalk : Sp := fun vs H Q _ => ∃ (v : V) (pl : List Nm) (ts : List Tie) (u : Nm), vs = [v, .str (S u)] ∧ Dt H v (treeD pl ts) ∧ Fine pl ts ∧ u ∈ pl ∧ ∀ (H' : Hp) (q bk ln : Addr) (fs : List Nm) (prev : Nm → Nm), Same H H' → Walked H' q bk ln pl ts u fs prev → Q (.ref q) H'
theorem ok_walk_from {f : Addr} {fd : FuncData} (F : Fun K "walk_from" "walk_from" s_walk_from f fd) (C_ties_of_each : Cal P w K mg base 1 "_ties_of_each" spTies) : FnOk P w K mg base CX0 2 f fd ["tree", "start"] spWalk := by
  refine F.ok sc_walk_from (fun vs H Q E h => ?_) (fun cdv A outer s H vs Q E hr h => ?_)
  · obtain ⟨v, pl, ts, u, rfl, _⟩ := h
    rfl
  · obtain ⟨v, pl, ts, u, rfl, hd, fine, hu, q⟩ := h
    refine ⟨_, (pss_cons (ps_set (i := 2) sc_walk_from.nd rfl (.inl rfl) (pe_c C_ties_of_each hr (by decide) rfl (pa_cons (pv 0) pa_nil)))
      (pss_cons (ps_set (i := 3) sc_walk_from.nd rfl (.inl rfl) (pe_disp (pps_cons (pv 1) (pv 1) pps_nil) (by rfl) (by rfl) (fun z => by cases z) (by decide)))
      (pss_cons (ps_set (i := 4) sc_walk_from.nd rfl (.inl rfl) (pe_disp (pps_cons (pv 1) pe_int pps_nil) (by rfl) (by rfl) (fun z => by cases z) (by decide)))
      (pss_cons (ps_set (i := 5) sc_walk_from.nd rfl (.inl rfl) (pe_lst (pa_cons (pv 1) pa_nil)))
      (pss_cut (ps_while PassesOwn.never (pt_truth (pv 5) (by intro _; rfl))
        (pss_cons (ps_set (i := 6) sc_walk_from.nd rfl (.inl rfl) (pe_bm0 PySem.F.plainAttrs_list PySem.F.slot_list_pop PySem.F.type_list_pop mt_pop (pv 5)))
        (pss_one (ps_for PassesOwn.never rfl (pi_list (pe_dget (hu_of hr) (pv 2) (pv 6) (fun _ _ => rfl))) (pg_tup rfl (pgs_cons (pg_name (i := 7) sc_walk_from.nd rfl (.inl rfl)) (pgs_cons (pg_name (i := 8) sc_walk_from.nd rfl (.inl rfl)) pgs_nil)))
          (pss_one (ps_if (pt_cmp (pc_dnotin (hu_of hr) (pv 7) (pv 3)))
            (pss_cons (ps_dput (hu_of hr) (pv 3) (pv 7) (pv 6) rfl)
            (pss_cons (ps_dput (hu_of hr) (pv 4) (pv 7) (pe_op op_add (pe_dget (hu_of hr) (pv 4) (pv 6) (fun _ _ => rfl)) (pv 8)) rfl)
            (pss_one (ps_expr (pe_bm PySem.F.plainAttrs_list PySem.F.slot_list_append PySem.F.type_list_append mt_append (pv 5) (pa_cons (pv 7) pa_nil))))))
            pss_nil))))))
      (pss_one (ps_ret (pe_tup (pa_cons (pv 3) (pa_cons (pv 4) pa_nil)))))))))), ?_⟩
    have tr := fine.tree
    have pl1 := fine.len
    have tl1 := tr.len
    refine ⟨_, rfl, v, pl, ts, rfl, hd, fine, fun H1 D ad S1 nD bs fr => ?_⟩
    -- back, lengths, ahead
    refine fun bk nbk => ⟨_, rfl, _, rfl, upd_same, [(Sum.inr (S u), .str (S u))], rfl, (by decide : 1 ≤ 15), ?_⟩
    rw [upd_upd]
    have S2 := same_new (o := .dK (mergeK [] [((Sum.inr (S u) : Key), V.str (S u))])) S1 nbk
    have bs2 := bs.keep (same_new (o := .dK (mergeK [] [((Sum.inr (S u) : Key), V.str (S u))])) (Same.refl H1) nbk)
    refine fun ln nln => ⟨_, rfl, upd_same, [(Sum.inr (S u), .int 0)], rfl, (by decide : 1 ≤ 15), ?_⟩
    rw [upd_upd]
    have S3 := same_new (o := .dK (mergeK [] [((Sum.inr (S u) : Key), V.int 0)])) S2 nln
    have bs3 := bs2.keep (same_new (o := .dK (mergeK [] [((Sum.inr (S u) : Key), V.int 0)])) (Same.refl _) nln)
    refine ⟨_, rfl, (by show 1 ≤ sizeLine; decide), fun ah nah => ?_⟩
    have S4 := same_new (o := .lst [.str (S u)]) S3 nah
    have bs4 := bs3.keep (same_new (o := .lst [.str (S u)]) (Same.refl _) nah)
    have bkln : bk ≠ ln := ne_of_none upd_same nln
    have bkah : bk ≠ ah := ne_of_none (by rw [upd_ne bkln]; exact upd_same) nah
    have lnah : ln ≠ ah := ne_of_none upd_same nah
    have Dbk : D ≠ bk := ne_of_none bs.dict nbk
    have Dln : D ≠ ln := ne_of_none bs2.dict nln
    have Dah : D ≠ ah := ne_of_none bs3.dict nah
    have bk0 : H bk = none := S1.free nbk
    have ln0 : H ln = none := S2.free nln
    have ah0 : H ah = none := S3.free nah
    have adbk : ∀ l ∈ pl, ad l ≠ bk := fun l hl => let ⟨_, h1, _⟩ := bs.each l hl; ne_of_none h1 nbk
    have adln : ∀ l ∈ pl, ad l ≠ ln := fun l hl => let ⟨_, h1, _⟩ := bs2.each l hl; ne_of_none h1 nln
    have adah : ∀ l ∈ pl, ad l ≠ ah := fun l hl => let ⟨_, h1, _⟩ := bs3.each l hl; ne_of_none h1 nah
    have hbk : (upd (upd (upd H1 bk (.dK (mergeK [] [((Sum.inr (S u) : Key), V.str (S u))]))) ln (.dK (mergeK [] [((Sum.inr (S u) : Key), V.int 0)]))) ah (.lst [.str (S u)])) bk = some (.dK (dkm [u] fun x => .str (S u))) := by
      rw [upd_ne bkah, upd_ne bkln]
      exact upd_same
    have hln : (upd (upd (upd H1 bk (.dK (mergeK [] [((Sum.inr (S u) : Key), V.str (S u))]))) ln (.dK (mergeK [] [((Sum.inr (S u) : Key), V.int 0)]))) ah (.lst [.str (S u)])) ln = some (.dK (dkm [u] fun x => .int (dist ts u x))) := by
      rw [upd_ne lnah]
      refine upd_same.trans ?_
      unfold dkm
      rw [List.map_singleton]
      show some (HO.dK [((Sum.inr (S u) : Key), V.int 0)]) = some (HO.dK [((Sum.inr (S u) : Key), V.int (dist ts u u))])
      rw [(tr.dist_self u).1]
    have hah : (upd (upd (upd H1 bk (.dK (mergeK [] [((Sum.inr (S u) : Key), V.str (S u))]))) ln (.dK (mergeK [] [((Sum.inr (S u) : Key), V.int 0)]))) ah (.lst [.str (S u)])) ah = some (.lst (([u].map S).map V.str)) := upd_same
    generalize upd (upd (upd H1 bk (.dK (mergeK [] [((Sum.inr (S u) : Key), V.str (S u))]))) ln (.dK (mergeK [] [((Sum.inr (S u) : Key), V.int 0)]))) ah (.lst [.str (S u)]) = H4 at S4 bs4 hbk hln hah
    refine ⟨fun σ' H' => ∃ (fs : List Nm) (prev : Nm → Nm) (x6 x7 x8 : Option V), σ' = [some v, some (.str (S u)), some (.ref D), some (.ref bk), some (.ref ln), some (.ref ah), x6, x7, x8] ∧ Same H H' ∧ H' bk = some (.dK (dkm fs fun x => .str (S (prev x)))) ∧ H' ln = some (.dK (dkm fs fun x => .int (dist ts u x))) ∧ Wk pl ts u fs [] prev (fun _ => False), ?_, fun σ' H' hM => ?_⟩
    · refine ⟨fun m σ' H' => ∃ (fs st : List Nm) (prev : Nm → Nm) (x6 x7 x8 : Option V), σ' = [some v, some (.str (S u)), some (.ref D), some (.ref bk), some (.ref ln), some (.ref ah), x6, x7, x8] ∧ Same H H' ∧ BesideAt H' D pl ad (nbOf ts) ∧ H' bk = some (.dK (dkm fs fun x => .str (S (prev x)))) ∧ H' ln = some (.dK (dkm fs fun x => .int (dist ts u x))) ∧ H' ah = some (.lst ((st.map S).map V.str)) ∧ Wk pl ts u fs st prev (fun _ => False) ∧ st.length ≤ fs.length ∧ 2 * fs.length + m = 2 * pl.length + st.length,
        ⟨2 * pl.length - 1, [u], [u], fun _ => u, none, none, none, rfl, S4, bs4, hbk, hln, hah, Wk.start tr hu, Nat.le_refl _, by have := List.length_pos_of_mem hu; simp; omega⟩, ?_⟩
      rintro m σ2 H2 ⟨fs, st, prev, x6, x7, x8, rfl, SM, bs5, hbk5, hln5, hah5, wk, sl, em⟩
      refine ⟨_, rfl, _, .inl ⟨_, SqL.of hah5, rfl⟩, ?_⟩
      rcases List.eq_nil_or_concat st with rfl | ⟨st', h, e⟩
      · exact ⟨fs, prev, x6, x7, x8, rfl, SM, hbk5, hln5, wk⟩
      · rw [List.concat_eq_append] at e
        subst e
        have ne : ((st' ++ [h]).map S).map V.str = (st'.map S).map V.str ++ [.str (S h)] := by
          rw [List.map_append, List.map_append]
          rfl
        rw [ne] at hah5 ⊢
        have nb : (!((st'.map S).map V.str ++ [V.str (S h)]).isEmpty) = true := by simp
        rw [nb]
        refine iteT ?_
        obtain ⟨hh, wk1⟩ := wk.pop
        have hpl := wk1.sub h hh
        have fl := nodup_sub_len fs pl wk.nd wk.sub
        rw [List.length_append, List.length_singleton] at em sl
        obtain ⟨ws, hw1, hw2⟩ := bs5.each h hpl
        have wl : ws.length = (nbOf ts h).length := by
          have := DtAll.len hw2
          rwa [List.length_map] at this
        refine ⟨fun σ' H' => ∃ (fs' st'' : List Nm) (prev' : Nm → Nm) (x6 x7 x8 : Option V), σ' = [some v, some (.str (S u)), some (.ref D), some (.ref bk), some (.ref ln), some (.ref ah), x6, x7, x8] ∧ Same H H' ∧ BesideAt H' D pl ad (nbOf ts) ∧ H' bk = some (.dK (dkm fs' fun x => .str (S (prev' x)))) ∧ H' ln = some (.dK (dkm fs' fun x => .int (dist ts u x))) ∧ H' ah = some (.lst ((st''.map S).map V.str)) ∧ Wk pl ts u fs' st'' prev' (fun _ => False) ∧ fs.length ≤ fs'.length ∧ fs'.length + st'.length = fs.length + st''.length, ?_, ?_⟩
        · rintro σ' H' ⟨fs', st'', prev', y6, y7, y8, e1, e2, e3, e4, e5, e6, e7, e8, e9⟩
          have fl' := nodup_sub_len fs' pl e7.nd e7.sub
          exact ⟨2 * pl.length + st''.length - 2 * fs'.length, by omega, fs', st'', prev', y6, y7, y8, e1, e2, e3, e4, e5, e6, e7, by omega, by omega⟩
        · refine ⟨_, rfl, .inl ⟨rfl, _, SqL.of hah5⟩, ah, _, .str (S h), rfl, rfl, hah5, by simp, ?_⟩
          rw [List.dropLast_concat]
          have hbk6 : (upd H2 ah (.lst ((st'.map S).map V.str))) bk = some (.dK (dkm fs fun x => .str (S (prev x)))) := by rw [upd_ne bkah]; exact hbk5
          have hln6 : (upd H2 ah (.lst ((st'.map S).map V.str))) ln = some (.dK (dkm fs fun x => .int (dist ts u x))) := by rw [upd_ne lnah]; exact hln5
          have hw6 : (upd H2 ah (.lst ((st'.map S).map V.str))) (ad h) = some (.lst ws) := by rw [upd_ne (adah h hpl)]; exact hw1
          have SM6 : Same H (upd H2 ah (.lst ((st'.map S).map V.str))) := same_put SM ah0
          have bs6 : BesideAt (upd H2 ah (.lst ((st'.map S).map V.str))) D pl ad (nbOf ts) := bs5.off (TK.mut hah5) Dah adah
          have hah6 : (upd H2 ah (.lst ((st'.map S).map V.str))) ah = some (.lst ((st'.map S).map V.str)) := upd_same
          generalize upd H2 ah (.lst ((st'.map S).map V.str)) = H6 at hbk6 hln6 hw6 SM6 bs6 hah6
          refine ⟨_, rfl, _, rfl, D, .ref (ad h), rfl, by rw [← dkm_get (f := fun l => V.ref (ad l)) hpl]; exact DGet.k (k := Sum.inr (S h)) bs6.dict, ad h, rfl, ⟨_, SqL.of hw6⟩, for_list (K := K) (a := ad h) (xs := ws) (fun i σ' H' => ∃ (fs' st'' : List Nm) (prev' : Nm → Nm) (x7 x8 : Option V), σ' = [some v, some (.str (S u)), some (.ref D), some (.ref bk), some (.ref ln), some (.ref ah), some (.str (S h)), x7, x8] ∧ Same H H' ∧ BesideAt H' D pl ad (nbOf ts) ∧ H' (ad h) = some (.lst ws) ∧ H' bk = some (.dK (dkm fs' fun x => .str (S (prev' x)))) ∧ H' ln = some (.dK (dkm fs' fun x => .int (dist ts u x))) ∧ H' ah = some (.lst ((st''.map S).map V.str)) ∧ Wk pl ts u fs' st'' prev' (fun x => x = h) ∧ fs.length ≤ fs'.length ∧ fs'.length + st'.length = fs.length + st''.length ∧ h ∈ fs' ∧ ∀ p ∈ (nbOf ts h).take i, p.1 ∈ fs')
            ⟨fs, st', prev, x7, x8, rfl, SM6, bs6, hw6, hbk6, hln6, hah6, wk1, Nat.le_refl _, rfl, hh, fun p hp => (by cases hp)⟩ (fun i σ' H' _ hP => ?_) (fun i x σ' H' hi hP => ?_) (fun σ' H' hP => ?_)⟩
          · obtain ⟨_, _, _, _, _, _, _, _, hw, _⟩ := hP
            exact SqL.of hw
          · obtain ⟨fs', st'', prev', y7, y8, rfl, SM7, bs7, hw7, hbk7, hln7, hah7, wk7, le7, em7, hh7, nb7⟩ := hP
            obtain ⟨ws', hw', hA7⟩ := bs7.each h hpl
            rw [hw7] at hw'
            cases hw'
            obtain ⟨d, hd', hx⟩ := DtAll.get hA7 hi
            rw [List.getElem?_map] at hd'
            cases ee : (nbOf ts h)[i]? with
            | none =>
              rw [ee] at hd'
              cases hd'
            | some yk =>
              obtain ⟨y, k⟩ := yk
              rw [ee] at hd'
              have ed : d = pairD (y, k) := (Option.some.inj hd').symm
              subst ed
              obtain ⟨g, rfl, hg⟩ := dt_pairD hx
              have adj : Adj ts h y k := (nbOf_adj ts h y k).mp (List.mem_of_getElem? ee)
              have et : (nbOf ts h).take (i + 1) = (nbOf ts h).take i ++ [(y, k)] := by
                rw [List.take_add_one, ee]
                rfl
              have fl' := nodup_sub_len fs' pl wk7.nd wk7.sub
              have szf : ∀ f : Nm → V, (dkm fs' f).length < sizeLine := fun f => by
                unfold dkm
                rw [List.length_map]
                exact sz_lt (by omega)
              refine ⟨g, _, rfl, SqT.of hg, rfl, _, _, rfl, _, _, rfl, rfl, ?_⟩
              refine ⟨_, rfl, _, rfl, bk, _, rfl, DGet.k (k := Sum.inr (S y)) hbk7, _, rfl, ?_⟩
              rw [dkm_some]
              by_cases hy : y ∈ fs'
              · rw [decide_eq_true hy]
                refine iteF ⟨fs', st'', prev', _, _, rfl, SM7, bs7, hw7, hbk7, hln7, hah7, wk7, le7, em7, hh7, fun p hp => ?_⟩
                rw [et] at hp
                rcases List.mem_append.mp hp with z | z
                · exact nb7 p z
                · rw [List.mem_singleton.mp z]
                  exact hy
              · rw [decide_eq_false hy]
                refine iteT ?_
                obtain ⟨e1, wk8⟩ := wk7.push tr hh7 adj hy
                -- back[place] = here
                refine ⟨_, rfl, _, rfl, _, rfl, bk, _, rfl, DPut.k (k := Sum.inr (S y)) hbk7 (szf _), ?_⟩
                rw [dkm_new hy]
                have SM8 := same_put (o := .dK (dkm (fs' ++ [y]) fun z => if z = y then V.str (S h) else .str (S (prev' z)))) SM7 bk0
                have bs8 := bs7.off (o := .dK (dkm (fs' ++ [y]) fun z => if z = y then V.str (S h) else .str (S (prev' z)))) (tkD hbk7) Dbk adbk
                have hln8 : (upd H' bk (.dK (dkm (fs' ++ [y]) fun z => if z = y then V.str (S h) else .str (S (prev' z))))) ln = some (.dK (dkm fs' fun x => .int (dist ts u x))) := by rw [upd_ne bkln.symm]; exact hln7
                have hah8 : (upd H' bk (.dK (dkm (fs' ++ [y]) fun z => if z = y then V.str (S h) else .str (S (prev' z))))) ah = some (.lst ((st''.map S).map V.str)) := by rw [upd_ne bkah.symm]; exact hah7
                have hw8 : (upd H' bk (.dK (dkm (fs' ++ [y]) fun z => if z = y then V.str (S h) else .str (S (prev' z))))) (ad h) = some (.lst ws) := by rw [upd_ne (adbk h hpl)]; exact hw7
                have hbk8 : (upd H' bk (.dK (dkm (fs' ++ [y]) fun z => if z = y then V.str (S h) else .str (S (prev' z))))) bk = some (.dK (dkm (fs' ++ [y]) fun z => .str (S (if z = y then h else prev' z)))) := by
                  rw [upd_same]
                  exact congrArg (fun z => some (HO.dK z)) (dkm_cong fun z _ => by by_cases q : z = y <;> simp [q])
                generalize upd H' bk (.dK (dkm (fs' ++ [y]) fun z => if z = y then V.str (S h) else .str (S (prev' z)))) = H8 at SM8 bs8 hln8 hah8 hw8 hbk8
                -- lengths[place] = lengths[here] + length
                refine ⟨_, rfl, _, rfl, ln, .int (dist ts u h), rfl, by rw [← dkm_get (f := fun x => V.int (dist ts u x)) hh7]; exact DGet.k (k := Sum.inr (S h)) hln8, _, rfl, _, _, rfl, rfl, _, rfl, _, rfl, ln, _, rfl, DPut.k (k := Sum.inr (S y)) hln8 (szf _), ?_⟩
                rw [dkm_new hy]
                have SM9 := same_put (o := .dK (dkm (fs' ++ [y]) fun z => if z = y then V.int (dist ts u h + k) else .int (dist ts u z))) SM8 ln0
                have bs9 := bs8.off (o := .dK (dkm (fs' ++ [y]) fun z => if z = y then V.int (dist ts u h + k) else .int (dist ts u z))) (tkD hln8) Dln adln
                have hbk9 : (upd H8 ln (.dK (dkm (fs' ++ [y]) fun z => if z = y then V.int (dist ts u h + k) else .int (dist ts u z)))) bk = some (.dK (dkm (fs' ++ [y]) fun z => .str (S (if z = y then h else prev' z)))) := by rw [upd_ne bkln]; exact hbk8
                have hah9 : (upd H8 ln (.dK (dkm (fs' ++ [y]) fun z => if z = y then V.int (dist ts u h + k) else .int (dist ts u z)))) ah = some (.lst ((st''.map S).map V.str)) := by rw [upd_ne lnah.symm]; exact hah8
                have hw9 : (upd H8 ln (.dK (dkm (fs' ++ [y]) fun z => if z = y then V.int (dist ts u h + k) else .int (dist ts u z)))) (ad h) = some (.lst ws) := by rw [upd_ne (adln h hpl)]; exact hw8
                have hln9 : (upd H8 ln (.dK (dkm (fs' ++ [y]) fun z => if z = y then V.int (dist ts u h + k) else .int (dist ts u z)))) ln = some (.dK (dkm (fs' ++ [y]) fun z => .int (dist ts u z))) := by
                  rw [upd_same]
                  refine congrArg (fun z => some (HO.dK z)) (dkm_cong fun z _ => ?_)
                  by_cases q : z = y
                  · rw [if_pos q, q, e1]
                  · rw [if_neg q]
                generalize upd H8 ln (.dK (dkm (fs' ++ [y]) fun z => if z = y then V.int (dist ts u h + k) else .int (dist ts u z))) = H9 at SM9 bs9 hbk9 hah9 hw9 hln9
                -- ahead.append(place)
                have stl : st''.length ≤ 3000 := by omega
                refine ⟨_, rfl, .inl ⟨rfl, _, SqL.of hah9⟩, _, rfl, ah, _, _, rfl, rfl, hah9, by rw [List.length_map, List.length_map]; exact sz_lt (by omega), ?_⟩
                refine ⟨fs' ++ [y], st'' ++ [y], _, _, _, rfl, same_put SM9 ah0, bs9.off (TK.mut hah9) Dah adah, by rw [upd_ne (adah h hpl)]; exact hw9, by rw [upd_ne bkah]; exact hbk9, by rw [upd_ne lnah]; exact hln9, ?_, wk8, by rw [List.length_append]; omega, by rw [List.length_append, List.length_append]; omega, List.mem_append_left _ hh7, fun p hp => ?_⟩
                · rw [upd_same, List.map_append, List.map_append]
                  rfl
                · rw [et] at hp
                  rcases List.mem_append.mp hp with z | z
                  · exact List.mem_append_left _ (nb7 p z)
                  · rw [List.mem_singleton.mp z]
                    exact List.mem_append_right _ (List.mem_singleton.mpr rfl)
          · obtain ⟨fs', st'', prev', y7, y8, rfl, SM7, bs7, hw7, hbk7, hln7, hah7, wk7, le7, em7, hh7, nb7⟩ := hP
            refine ⟨fs', st'', prev', _, _, _, rfl, SM7, bs7, hbk7, hln7, hah7, wk7.shut fun y k ha => ?_, le7, em7⟩
            rw [wl, List.take_length] at nb7
            exact nb7 _ ((nbOf_adj ts h y k).mpr ha)
    · obtain ⟨fs, prev, x6, x7, x8, rfl, SM, hbk5, hln5, wk⟩ := hM
      refine ⟨_, rfl, _, rfl, (by show 2 ≤ sizeLine; decide), fun p np => ?_⟩
      refine q _ p bk ln fs prev (same_new SM np) ⟨upd_same, by rw [upd_ne (ne_of_none hbk5 np)]; exact hbk5, by rw [upd_ne (ne_of_none hln5 np)]; exact hln5, wk.all tr, wk.pr⟩
end
end Far

namespace Far
open PySem PySem.Spec PyProof.Rows L2
open C8 (pss_cut tCut)
open SX (S)
theorem inV_strsT (l : Nm) (ls : List Nm) : inV (.str (S l)) ((ls.map S).map V.str) = decide (l ∈ ls) := inV_strs l ls
theorem pl0_of {H : Hp} {v : V} {pl : List Nm} {ts : List Tie} (h : Dt H v (treeD pl ts)) : ∃ (t a b : Addr), v = .ref t ∧ H t = some (.tup [.ref a, .ref b]) ∧ TupAt H a ((pl.map S).map V.str) := by
  obtain ⟨t, a, b, vs, e, h1, h2, _⟩ := dt_tree h
  exact ⟨t, a, b, e, h1, h2⟩
abbrev s_check_places : Stmt := topS 5
abbrev N_check_places : List Str := ["tree", "names", "name"]
theorem sc_check_places : FnScope N_check_places ["tree", "names"] (defScope s_check_places) := ⟨rfl, rfl, rfl, by decide +kernel, rfl, by decide +kernel, by decide +kernel⟩
section
variable {P : Program} {w : World} {K : PySem.W.Frag} {mg : Str → Option Value} {base : Heap}
def spCheck : Sp := fun vs H Q _ => ∃ (v : V) (n : Addr) (pl ns : List Nm) (ts : List Tie), vs = [v, .ref n] ∧ Dt H v (treeD pl ts) ∧ H n = some (.tup ((ns.map S).map V.str)) ∧ (∀ x ∈ ns, x ∈ pl) ∧ Q .non H
theorem ok_check_places {f : Addr} {fd : FuncData} (F : Fun K "check_places" "check_places" s_check_places f fd) : FnOk P w K mg base CX0 1 f fd ["tree", "names"] spCheck := by
  refine F.ok sc_check_places (fun vs H Q E h => ?_) (fun cdv A outer s H vs Q E hr h => ?_)
  · obtain ⟨v, n, pl, ns, ts, rfl, _⟩ := h
    rfl
  · obtain ⟨v, n, pl, ns, ts, rfl, hd, hn, sub, q⟩ := h
    obtain ⟨t, a, b, rfl, ht, ha⟩ := pl0_of hd
    refine ⟨_, (pss_one (ps_for PassesOwn.never rfl (pi_tup (pv 1)) (pg_name (i := 2) sc_check_places.nd rfl (.inl rfl))
        (pss_one (ps_if (pt_cmpR op_notIn_seq (pv 2) (pe_ix ix_tup (pv 0) pe_int (fun _ _ => rfl)) rfl)
          (pss_one ps_never)
          pss_nil)))), ?_⟩
    refine ⟨_, rfl, n, rfl, ⟨_, SqT.of hn⟩, for_tup (K := K) (a := n) (xs := (ns.map S).map V.str) (fun i σ' H' => (∃ x2, σ' = [some (.ref t), some (.ref n), x2]) ∧ H' = H) ⟨⟨_, rfl⟩, rfl⟩ (fun i σ' H' _ hP => hP.2 ▸ SqT.of hn) (fun i x σ' H' hi hP => ?_) (fun σ' H' hP => hP.2 ▸ q)⟩
    obtain ⟨⟨x2, rfl⟩, rfl⟩ := hP
    obtain ⟨l, hl, rfl⟩ := strs_at (List.mem_of_getElem? hi)
    refine ⟨_, rfl, _, rfl, t, _, 0, .ref a, rfl, rfl, SqT.of ht, atI_nat (j := 0) rfl, a, _, rfl, .inr ha.sq, rfl, flat_strs pl, _, rfl, ?_⟩
    rw [inV_strs, decide_eq_true (sub l hl)]
    exact iteF ⟨⟨_, rfl⟩, rfl⟩
end
abbrev s_lengths_from : Stmt := topS 4
abbrev N_lengths_from : List Str := ["tree", "place", "_", "lengths", "name"]
theorem sc_lengths_from : FnScope N_lengths_from ["tree", "place"] (defScope s_lengths_from) := ⟨rfl, rfl, rfl, by decide +kernel, rfl, by decide +kernel, by decide +kernel⟩
section
variable {P : Program} {w : World} {K : PySem.W.Frag} {mg : Str → Option Value} {base : Heap}
def spLens : Sp := fun vs H Q _ => ∃ (v : V) (pl : List Nm) (ts : List Tie) (u : Nm), vs = [v, .str (S u)] ∧ Dt H v (treeD pl ts) ∧ Fine pl ts ∧ u ∈ pl ∧ ∀ (H' : Hp) (q : Addr), Same H H' → H q = none → H' q = some (.tup (pl.map fun x => .int (dist ts u x))) → Q (.ref q) H'
theorem lens_body {H1 : Hp} {q bk ln : Addr} {pl fs : List Nm} {ts : List Tie} {u : Nm} {prev : Nm → Nm} (W : Walked H1 q bk ln pl ts u fs prev) {x : Nm} (hx : x ∈ pl) {H' : Hp} (s : H' ln = H1 ln) : DGet H' ln (.str (S x)) (some (.int (dist ts u x))) := by
  have e := W.lens
  rw [← s] at e
  have := DGet.k (k := Sum.inr (S x)) e
  rw [dkm_get ((W.all x).mpr hx)] at this
  exact this
theorem ok_lengths_from {f : Addr} {fd : FuncData} (F : Fun K "lengths_from" "lengths_from" s_lengths_from f fd) (T : TxtW mg) (Ccheck_places : Cal P w K mg base 1 "check_places" spCheck) (Cwalk_from : Cal P w K mg base 2 "walk_from" spWalk) : FnOk P w K mg base CX0 3 f fd ["tree", "place"] spLens := by
  refine F.ok sc_lengths_from (fun vs H Q E h => ?_) (fun cdv A outer s H vs Q E hr h => ?_)
  · obtain ⟨v, pl, ts, u, rfl, _⟩ := h
    rfl
  · obtain ⟨v, pl, ts, u, rfl, hd, fine, hu, q⟩ := h
    obtain ⟨t, a, b, rfl, ht, ha⟩ := pl0_of hd
    refine ⟨_, (pss_cons (ps_expr (pe_c Ccheck_places hr (by decide) rfl (pa_cons (pv 0) (pa_cons (pe_tup (pa_cons (pv 1) pa_nil)) pa_nil))))
      (pss_cons (ps_asg (pe_c Cwalk_from hr (by decide) rfl (pa_cons (pv 0) (pa_cons (pv 1) pa_nil))) (pg_tup rfl (pgs_cons (pg_name (i := 2) sc_lengths_from.nd rfl (.inl rfl)) (pgs_cons (pg_name (i := 3) sc_lengths_from.nd rfl (.inr rfl)) pgs_nil))))
      (pss_one (ps_ret (pe_tupleOf (by rfl) T.tuple (pe_lc (own := [("name", 4)]) (g := gName 4) (tt := tYes) rfl sc_lengths_from.nd (pi_tup (pe_ix ix_tup (pv 0) pe_int (fun _ _ => rfl))) (blkOk_by (N := N_lengths_from) (sc := defScope s_lengths_from) (by decide +kernel)) (fun _ _ _ _ _ => pg_name (i := 4) sc_lengths_from.nd rfl (Or.inl rfl)) (fun _ _ _ _ _ => pts_nil) (fun _ _ _ _ _ => (pe_dget (hu_of hr) (pv 3) (pv 4) (fun _ _ => rfl))))))))), ?_⟩
    refine ⟨_, rfl, _, rfl, (by show 1 ≤ sizeLine; decide), fun p np => ?_⟩
    have s1 := same_new (o := .tup [.str (S u)]) (Same.refl H) np
    refine ⟨.ref t, p, pl, [u], ts, rfl, Dt.keep (TK.of s1) hd, upd_same, fun x hx => by rw [List.mem_singleton.mp hx]; exact hu, ?_⟩
    refine ⟨_, rfl, _, rfl, .ref t, pl, ts, u, rfl, Dt.keep (TK.of s1) hd, fine, hu, fun H1 g bk ln fs prev S1 W => ?_⟩
    have s2 := s1.trans S1
    refine ⟨g, _, rfl, SqT.of W.pair, rfl, _, _, rfl, _, _, rfl, rfl, ?_⟩
    refine ⟨_, rfl, t, _, 0, .ref a, rfl, rfl, SqT.of (s2 _ _ ht), atI_nat (j := 0) rfl, a, rfl, ⟨_, (ha.same s2).sq⟩, fun D nD => ?_⟩
    have Da : a ≠ D := (ha.same s2).ne nD
    have Dl : ln ≠ D := ne_of_none W.lens nD
    refine lc_tup (K := K) (a := a) (xs := (pl.map S).map V.str) (fun i H' => H' = upd H1 D (.lst ((pl.take i).map fun x => .int (dist ts u x)))) rfl (fun i H' _ hP => ?_) (fun i x H' hi hP => ?_) (fun H' hP => ?_)
    · rw [hP]
      exact ((ha.same s2).updN Da).sq
    · subst hP
      have pl1 := fine.len
      rw [List.getElem?_map, List.getElem?_map] at hi
      cases el : pl[i]? with
      | none =>
        rw [el] at hi
        cases hi
      | some l =>
        rw [el] at hi
        have ex : x = .str (S l) := (Option.some.inj hi).symm
        subst ex
        refine ⟨rfl, _, rfl, _, rfl, ln, .int (dist ts u l), rfl, lens_body W (List.mem_of_getElem? el) (upd_ne Dl), _, upd_same, by rw [List.length_map, List.length_take]; exact sz_lt (by omega), ?_⟩
        rw [upd_upd, List.take_add_one, el, List.map_append]
        rfl
    · subst hP
      rw [List.length_map, List.length_map, List.take_length]
      have s3 := same_new (o := .lst (pl.map fun x => V.int (dist ts u x))) s2 nD
      refine .inl ⟨D, _, rfl, SqL.of upd_same, fun r nr => ?_⟩
      exact q _ r (same_new s3 nr) (s3.free nr) upd_same
end
end Far

namespace Far
open PySem PySem.Spec PyProof.Rows L2
open C8 (pss_cut tCut)
open SX (S)
end Far

namespace Far
open PySem PySem.Spec PyProof.Rows L2
open C8 (pss_cut tCut)
open SX (S)
abbrev Tri := Int × Nm × Nm
def triD (x : Tri) : PyData := .tuple [.int x.1, .str (S x.2.1), .str (S x.2.2)]
/-- the pairs of place i with those behind it -/
noncomputable def rowP (pl : List Nm) (ts : List Tie) (i : Nat) : List Tri := (pl.drop (i + 1)).map fun y => (dist ts (pl.getD i []) y, pl.getD i [], y)
/-- those of the first n places -/
noncomputable def prs (pl : List Nm) (ts : List Tie) (n : Nat) : List Tri := (List.range n).flatMap (rowP pl ts)
/-- all pairs of two places, in order -/
noncomputable def pairsOf (pl : List Nm) (ts : List Tie) : List Tri := prs pl ts pl.length
theorem prs_succ (pl : List Nm) (ts : List Tie) (n : Nat) : prs pl ts (n + 1) = prs pl ts n ++ rowP pl ts n := by
  unfold prs
  rw [List.range_succ, List.flatMap_append, List.flatMap_singleton]
theorem rowP_len (pl : List Nm) (ts : List Tie) (i : Nat) : (rowP pl ts i).length = pl.length - (i + 1) := by
  unfold rowP
  rw [List.length_map, List.length_drop]
theorem prs_len (pl : List Nm) (ts : List Tie) : ∀ n, (prs pl ts n).length ≤ n * pl.length
  | 0 => Nat.zero_le _
  | n + 1 => by
    have ih := prs_len pl ts n
    rw [prs_succ, List.length_append, rowP_len, Nat.succ_mul]
    omega
theorem rowP_at {pl : List Nm} {ts : List Tie} {i j : Nat} {x y : Nm} (hx : pl[i]? = some x) (hy : pl[i + 1 + j]? = some y) : (rowP pl ts i)[j]? = some (dist ts x y, x, y) := by
  have ex : pl.getD i [] = x := by
    show (pl[i]?).getD [] = x
    rw [hx]
    rfl
  unfold rowP
  rw [ex, List.getElem?_map, List.getElem?_drop, hy]
  rfl
end Far

namespace Far
open PySem PySem.Spec PyProof.Rows L2
/-! ### enumerate(t), t a tuple -/
theorem meets_enumT {v : Value} {o : Obj} {H : Heap → Prop} (B : Begins v o H) :
    Meets (Builtin.«enumerate.__new__» ⟨[.type "enumerate", v], []⟩) (fun _ R s => H s.heap ∧
      R (.ok (.ret (.ref (s.heap.push o).objs.size))) { s with heap := (s.heap.push o).push { cls := .type "enumerate", data := .fields #[.none, .bool false, .ref s.heap.objs.size, rawInt 0, .none, .none] } }) :=
  .of_wp fun prog w A R s h => by
    obtain ⟨hp, g, d, tk, os⟩ := s; obtain ⟨h1, h⟩ := h
    have hsub := sub_enumerate
    have q1 : ∀ {A' : Around} {E : Value → Shared → Prop} {Q : Value → Shared → Prop}, Q (.ref hp.objs.size) ⟨hp.push o, g, d, tk, os⟩ → wpAny (model prog w) A' (pyIter v) Q E ⟨hp, g, d, tk, os⟩ :=
      fun q => B.iter prog w _ _ ⟨hp, g, d, tk, os⟩ _ h1 q
    wp_walk using q1
    refine wpAny_stack_any fun st => wpAny_pure ?_
    split
    · rename_i c _ _ _ _ _
      cases (c == Value.type "enumerate")
      · wp_walk using q1
        exact ⟨_, rfl, h⟩
      · wp_walk using q1
        exact ⟨_, rfl, h⟩
    · wp_walk using q1
      exact ⟨_, rfl, h⟩
theorem enumT_begins {prog : Program} {w : World} {A : Around} {E : Value → Shared → Prop} {s : Shared} {v : Value} {o : Obj} {H : Heap → Prop} {Q : Value → Shared → Prop} (B : Begins v o H) (h1 : H s.heap)
    (h : ∀ h', IsEnum h' (s.heap.objs.size + 1) s.heap.objs.size 0 .none → h'.get? s.heap.objs.size = some o → h'.objs.size = s.heap.objs.size + 2 →
      (∀ b o, s.heap.get? b = some o → h'.get? b = some o) → Q (.ref (s.heap.objs.size + 1)) { s with heap := h' }) :
    wpAny (model prog w) A (call (.type "enumerate") [v]) Q E s := by
  refine callType_new F.called_enumerate (by decide) (F.typeCall_enumerate_1 _) (F.newCall_enumerate_1 _) (fun obj => F.args_object_init_2 obj _) F.entry_enumerate_new
    (meets_enumT B) ⟨h1, ?_⟩
  have hz : (s.heap.push o).objs.size = s.heap.objs.size + 1 := Heap.size_push ..
  show _ ∧ _
  rw [hz]
  have he : IsEnum ((s.heap.push o).push { cls := .type "enumerate", data := .fields #[.none, .bool false, .ref s.heap.objs.size, rawInt 0, .none, .none] }) (s.heap.objs.size + 1) s.heap.objs.size 0 .none := by
    have := Heap.get?_push_size (s.heap.push o) (o := { cls := .type "enumerate", data := .fields #[.none, .bool false, .ref s.heap.objs.size, rawInt 0, .none, .none] }) rfl
    rw [hz] at this; exact this
  refine ⟨⟨_, he, rfl⟩, h _ he (Heap.get?_push_of_some _ (Heap.get?_push_size _ B.free)) (by rw [Heap.size_push, hz]) fun b o x => Heap.get?_push_of_some _ (Heap.get?_push_of_some _ x)⟩
/-- the tuple at a, each item in a new pair with its number -/
def Itne (K : PySem.W.Frag) (a : Addr) : It :=
  ⟨fun i H => ∃ (xs : List V) (x : V), SqT K H a xs ∧ xs[i]? = some x,
   fun i H v H' => ∃ T x, v = .ref T ∧ H T = none ∧ H' = upd H T (.tup [.int (i : Nat), x]) ∧ ∀ xs, SqT K H a xs → xs[i]? = some x,
   fun i H => ∃ xs : List V, SqT K H a xs ∧ xs.length ≤ i⟩
theorem turn_enumT {P : Program} {w : World} {K : PySem.W.Frag} {elts : List Expr} {kk : Nat} {tpos : Pos} (a e it : Addr) :
    Turn P w K (.Tuple elts kk tpos) (Itne K a) [e, it] e (fun i h => (∃ o, IsEnum h e it ((i : Nat) : Int) o) ∧ h.IsTupleIter it a i ∧ e ≠ it ∧ a ≠ it) where
  mem := by simp
  obj := fun i h st b hb => by
    obtain ⟨⟨o', he⟩, ⟨o, ho, hc, hd⟩, _⟩ := st
    rcases (show b = e ∨ b = it by simpa using hb) with rfl | rfl
    · exact ⟨_, he, fun v q => nomatch q⟩
    · exact ⟨o, ho, fun v q => by rw [hd] at q; cases q⟩
  keep := fun i h h' ⟨⟨o, he⟩, hi, hne⟩ k => ⟨⟨o, k e (by simp) _ he⟩, hi.at fun o q => k it (by simp) o q, hne⟩
  item := by
    intro X hP hw hK hc i pins s σ H E I hf st hg
    subst hP hw hK
    obtain ⟨⟨old, he⟩, hit, hne, hna⟩ := st
    obtain ⟨xs, x, hq, hx⟩ := hg
    obtain ⟨its, rv, p, hz⟩ := I.tuple hq
    have p' : s.heap.IsTuple a its.toArray := p
    obtain ⟨u, hu, ru⟩ := rv.get hx
    have hel : e < s.heap.objs.size := Heap.lt_size he
    have hil : it < s.heap.objs.size := by
      obtain ⟨_, q, _⟩ := hit
      exact Heap.lt_size q
    have hea : e ∉ [it, a] := by
      intro hm
      rcases List.mem_cons.mp hm with z | z
      · exact hne z
      · have z := List.mem_singleton.mp z
        obtain ⟨o, m, q, _⟩ := p'
        rw [← z, he] at m
        cases m
        have q : Value.type "enumerate" = Value.type "tuple" := q
        exact absurd q (by decide)
    have hlt : i < its.toArray.size := by
      have := (List.getElem?_eq_some_iff.mp hu).1
      simpa using this
    refine wpAny_pyNext_enum_itemC (Draws.tuple (A := X.A.in1) (I.ok.hd hc) it a hna its.toArray) he ⟨hit, p'⟩ hlt hne hea fun x' h' tk hx' ho hst' hT hsz hk => ?_
    have ex : x' = u := by
      have : its.toArray[i]? = some u := by simpa using hu
      exact Option.some.inj (hx'.symm.trans this)
    subst ex
    refine ⟨_, rfl, wpAny_letOwnedTupleGo_enum (s := { s with heap := h', toks := tk + 1 }) ho fun h2 he2 sb => ?_⟩
    have hT2 : h2.get? s.heap.objs.size = some { cls := .type "tuple", data := .seq #[.int (i : Nat) tk, x'] } := (sb.2 _ (Nat.ne_of_gt hel)).trans hT
    have new : ObjOk X.prog X.w (upd H s.heap.objs.size (.tup [.int (i : Nat), x])) h2 s.heap.objs.size (.tup [.int (i : Nat), x]) :=
      ⟨by show 2 ≤ sizeLine; decide, [.int (i : Nat) tk, x'], .cons ⟨_, rfl⟩ (.cons ru .nil), ⟨_, hT2, rfl, _, rfl⟩⟩
    have I1 : Inv X pins σ (upd H s.heap.objs.size (.tup [.int (i : Nat), x])) { s with heap := h2, toks := tk + 1 } :=
      I.turnedNew (ch := [e, it]) (fun b ob hb q => (sb.2 b (fun z => hb (by simp [z]))).trans (hk b ob (fun z => hb (by simp [z])) (fun z => hb (by simp [z])) q)) hf (Nat.le_refl _) new
    refine ⟨.ref s.heap.objs.size, _, I1, rfl, ⟨_, x, rfl, I.hok.fresh (Nat.le_refl _), rfl, fun ys hy => by rw [I.tuple_inj hy hq]; exact hx⟩, ⟨⟨x', ?_⟩, hst'.1.at fun o q => (sb.2 it (Ne.symm hne)).trans q, hne, hna⟩, fun b hb => ?_⟩
    · rw [show ((i + 1 : Nat) : Int) = (i : Nat) + 1 by omega]
      exact he2
    · have hb' : b < s.heap.objs.size := by
        rcases (show b = e ∨ b = it by simpa using hb) with z | z
        · rw [z]; exact hel
        · rw [z]; exact hil
      rw [upd_ne (Nat.ne_of_lt hb')]
      exact (hf b hb).1
  done := by
    intro X hP hw hK hc i pins s σ H E I hf st hg
    subst hP hw hK
    obtain ⟨⟨old, he⟩, hit, hne, hna⟩ := st
    obtain ⟨xs, hq, hx⟩ := hg
    obtain ⟨its, rv, p, hz⟩ := I.tuple hq
    have p' : s.heap.IsTuple a its.toArray := p
    obtain ⟨f0, f1, f2, f3, f4, f5⟩ := hf it (by simp)
    have hl := rv.length
    have D : Draws X.prog X.w X.A.in1 it [it, a] i (fun _ _ => True) (fun j h => (h.IsTupleIter it a j ∧ h.IsTuple a its.toArray) ∧ j = i) :=
      { live := fun _ _ st => let ⟨o, ho, _⟩ := st.1.1; ⟨o, ho⟩
        frame := fun _ _ _ st hk => ⟨⟨st.1.1.at fun o e => hk it (by simp) o e, st.1.2.at fun o e => hk a (by simp) o e⟩, st.2⟩
        item := fun j _ _ _ hj st _ => absurd st.2 (by omega)
        done := fun s Q E st hE => wpAny_nextOf_tuple_end (I.ok.hd hc) st.1.1 st.1.2 (by simp; omega) hE }
    exact wpAny_pyNext_enum_endD D he ⟨⟨hit, p'⟩, rfl⟩ fun h' eb => ⟨rfl, I.turned (t' := s.toks) (fun b o hb q => eb b o hb q) f0 f1 f3 f4 f5⟩
  self := fun A i s Q E st h => by
    obtain ⟨⟨_, he⟩, _⟩ := st
    exact wpAny_pyIter_enum he h
def iEnumT (K : PySem.W.Frag) (ta : TA) : TI := fun σ H R => ta σ H fun vs H1 => ∃ a xs, vs = [.ref a] ∧ SqT K H1 a xs ∧ R (Itne K a) H1
theorem pi_enumT {X : Cx} {e : Expr} {ta : TA} {p pos tpos : Pos} {elts : List Expr} {kk : Nat} (hg : Gl X "enumerate") (hm : X.mg "enumerate" = none) (ha : PA X [e] ta) (hs : starEach [e] X.env = [(false, eval e X.env)] := by rfl) :
    PI X (.Tuple elts kk tpos) (.Call (.Name "enumerate" p) [e] [] pos) (iEnumT X.K ta) := by
  refine ⟨fun pins s σ H R I h => ?_⟩
  refine Call_ (ld_blt I hg hm boot_enumerate (PyProof.Rows.callWith_type1 (thn (ha.run pos pins s σ H _ I h) fun us s1 ⟨vs, H1, I1, r1, q1⟩ => ?_) hs rfl))
  obtain ⟨a, xs, ex, hq, q⟩ := q1
  subst ex
  cases r1 with
  | cons r rr =>
    cases rr
    cases r
    obtain ⟨its, rv, p', hz⟩ := I1.tuple hq
    have p2 : s1.heap.IsTuple a its.toArray := p'
    refine enumT_begins (begins_tuple a its.toArray) p2 fun h' he hit hsz hk => wpAny_pyIter_enum he ?_
    have I2 : Inv X pins σ H1 { s1 with heap := h' } := I1.kept (t' := s1.toks) hk
    have hal : a < s1.heap.objs.size := by
      obtain ⟨o, m, _⟩ := p2
      exact Heap.lt_size m
    refine ⟨s1.heap.objs.size + 1, [s1.heap.objs.size + 1, s1.heap.objs.size], _, _, H1, rfl, I2, turn_enumT a (s1.heap.objs.size + 1) s1.heap.objs.size, ⟨⟨.none, by simpa using he⟩, ⟨_, hit, rfl, rfl⟩, Nat.succ_ne_self _, Nat.ne_of_lt hal⟩, fun b hb => ?_, q⟩
    have hle : s1.heap.objs.size ≤ b := by
      rcases (show b = s1.heap.objs.size + 1 ∨ b = s1.heap.objs.size by simpa using hb) with z | z
      · rw [z]; exact Nat.le_add_right _ _
      · rw [z]; exact Nat.le_refl _
    exact I1.fpOk hle (I1.hok.fresh hle)
end Far

namespace Far
open PySem PySem.Spec PyProof.Rows L2
open C8 (pss_cut tCut)
open SX (S)
structure TxtQ (mg : Str → Option Value) : Prop where
  len : mg "len" = none
  range : mg "range" = none
  tuple : mg "tuple" = none
  enumerate : mg "enumerate" = none
theorem szM {n : Nat} (h : n ≤ 10000000) : n < sizeLine := Nat.lt_of_le_of_lt h (by decide)
theorem for_enumT {K : PySem.W.Frag} {a : Addr} {xs : List V} {g : TG} {tb : TS} {D : Ends} {σ : L2.St} {H : Hp} (Pv : Nat → L2.St → Hp → Prop) (h0 : Pv 0 σ H) (hl : ∀ i σ H, Pv i σ H → SqT K H a xs)
    (hs : ∀ i x σ H T, xs[i]? = some x → Pv i σ H → H T = none → g (.ref T) σ (upd H T (.tup [.int (i : Nat), x])) fun σ2 H2 => tb { D with nx := Pv (i + 1), ct := Pv (i + 1), bk := D.nx } σ2 H2) (hd : ∀ σ H, Pv xs.length σ H → D.nx σ H) :
    ∃ W : Nat → Nat → L2.St → Hp → Prop, (∃ m, W 0 m σ H) ∧ ∀ i m σ H, W i m σ H →
      ((Itne K a).stop i H ∧ D.nx σ H) ∨ ((Itne K a).go i H ∧ ∃ N : L2.St → Hp → Prop, (∀ σ' H', N σ' H' → ∃ m', m' < m ∧ W (i + 1) m' σ' H') ∧ ∀ x H', (Itne K a).yld i H x H' → g x σ H' fun σ2 H2 => tb { D with nx := N, ct := N, bk := D.nx } σ2 H2) := by
  refine ⟨fun i m σ H => m = xs.length - i ∧ i ≤ xs.length ∧ Pv i σ H, ⟨xs.length, by simp, Nat.zero_le _, h0⟩, fun i m σ H ⟨em, hi, p⟩ => ?_⟩
  have q := hl i σ H p
  by_cases lt : i < xs.length
  · refine .inr ⟨⟨xs, xs[i], q, by simp [lt]⟩, Pv (i + 1), fun σ' H' p' => ⟨xs.length - (i + 1), by omega, rfl, lt, p'⟩, fun v H' ⟨T, x, ev, nT, eH, hx⟩ => ?_⟩
    rw [ev, eH]
    exact hs i x σ H T (hx xs q) p nT
  · have e : i = xs.length := by omega
    rw [e] at p
    exact .inl ⟨⟨xs, q, by omega⟩, hd σ H p⟩
abbrev s_pairs_in_order : Stmt := topS 11
abbrev N_pairs_in_order : List Str := ["tree", "places", "told", "number", "one", "lengths", "behind"]
theorem sc_pairs_in_order : FnScope N_pairs_in_order ["tree"] (defScope s_pairs_in_order) := ⟨rfl, rfl, rfl, by decide +kernel, rfl, by decide +kernel, by decide +kernel⟩
section
variable {P : Program} {w : World} {K : PySem.W.Frag} {mg : Str → Option Value} {base : Heap}
/-- what pairs_in_order tells -/
def spPio : Sp := fun vs H Q _ => ∃ (v : V) (pl : List Nm) (ts : List Tie), vs = [v] ∧ Dt H v (treeD pl ts) ∧ Fine pl ts ∧ ∀ (H' : Hp) (D : Addr) (ws : List V), Same H H' → H D = none → H' D = some (.lst ws) → DtAll H' ws ((pairsOf pl ts).map triD) → Q (.ref D) H'
theorem ok_pio {f : Addr} {fd : FuncData} (F : Fun K "pairs_in_order" "pairs_in_order" s_pairs_in_order f fd) (T : TxtQ mg) (Clengths_from : Cal P w K mg base 3 "lengths_from" spLens) : FnOk P w K mg base CX0 4 f fd ["tree"] spPio := by
  refine F.ok sc_pairs_in_order (fun vs H Q E h => ?_) (fun cdv A outer s H vs Q E hr h => ?_)
  · obtain ⟨v, pl, ts, rfl, _⟩ := h
    rfl
  · obtain ⟨v, pl, ts, rfl, hd, fine, q⟩ := h
    obtain ⟨t, a, b, vs, rfl, ht, ha, hb, hA⟩ := dt_tree hd
    refine ⟨_, (pss_cons (ps_set (i := 1) sc_pairs_in_order.nd rfl (.inl rfl) (pe_ix ix_tup (pv 0) pe_int (fun _ _ => rfl)))
      (pss_cons (ps_set (i := 2) sc_pairs_in_order.nd rfl (.inl rfl) (pe_lst pa_nil))
      (pss_cut (ps_for PassesOwn.never rfl (pi_enumT (by rfl) T.enumerate (pa_cons (pv 1) pa_nil)) (pg_tup rfl (pgs_cons (pg_name (i := 3) sc_pairs_in_order.nd rfl (.inl rfl)) (pgs_cons (pg_name (i := 4) sc_pairs_in_order.nd rfl (.inl rfl)) pgs_nil)))
        (pss_cons (ps_set (i := 5) sc_pairs_in_order.nd rfl (.inl rfl) (pe_c Clengths_from hr (by decide) rfl (pa_cons (pv 0) (pa_cons (pv 4) pa_nil))))
        (pss_one (ps_for PassesOwn.never rfl (pi_range2 (by rfl) T.range (pa_cons (pe_op op_add (pv 3) pe_int) (pa_cons (pe_callB call_len_seq (by rfl) T.len bt_len (pa_cons (pv 1) pa_nil)) pa_nil))) (pg_name (i := 6) sc_pairs_in_order.nd rfl (.inl rfl))
          (pss_one (ps_expr (pe_bm PySem.F.plainAttrs_list PySem.F.slot_list_append PySem.F.type_list_append mt_append (pv 2) (pa_cons (pe_tup (pa_cons (pe_ix ix_tup (pv 5) (pv 6) (fun _ _ => rfl)) (pa_cons (pv 4) (pa_cons (pe_ix ix_tup (pv 1) (pv 6) (fun _ _ => rfl)) pa_nil)))) pa_nil))))))))
      (pss_one (ps_ret (pv 2)))))), ?_⟩
    have p1000 := fine.len
    have sqn : ((pl.map S).map V.str).length = pl.length := by rw [List.length_map, List.length_map]
    refine ⟨_, rfl, t, _, 0, .ref a, rfl, rfl, SqT.of ht, atI_nat (j := 0) rfl, ?_⟩
    refine ⟨Nat.zero_le _, fun D nD => ?_⟩
    refine ⟨fun σ' H' => ∃ (x3 x4 x5 x6 : Option V) (ws : List V), σ' = [some (.ref t), some (.ref a), some (.ref D), x3, x4, x5, x6] ∧ Same H H' ∧ H' D = some (.lst ws) ∧ DtAll H' ws ((pairsOf pl ts).map triD), ?_, fun σ' H' hM => ?_⟩
    · have S2 := same_new (o := .lst []) (Same.refl H) nD
      refine ⟨_, rfl, a, _, rfl, (ha.same S2).sq, ?_⟩
      refine for_enumT (K := K) (a := a) (xs := (pl.map S).map V.str) (fun i σ' H' => ∃ (x3 x4 x5 x6 : Option V) (ws : List V), σ' = [some (.ref t), some (.ref a), some (.ref D), x3, x4, x5, x6] ∧ Same H H' ∧ H' D = some (.lst ws) ∧ DtAll H' ws ((prs pl ts i).map triD)) ⟨none, none, none, none, [], rfl, S2, upd_same, .nil⟩ (fun i σ' H' hP => ?_) (fun i v σ' H' u hi hP nu => ?_) (fun σ' H' hP => ?_)
      · obtain ⟨_, _, _, _, ws, rfl, SM, _⟩ := hP
        exact (ha.same SM).sq
      · obtain ⟨x3, x4, x5, x6, ws, rfl, SM, hD, hW⟩ := hP
        have gx : ∃ x, pl[i]? = some x ∧ v = .str (S x) := by
          rw [List.getElem?_map, List.getElem?_map] at hi
          cases el : pl[i]? with
          | none => rw [el] at hi; cases hi
          | some x => rw [el] at hi; exact ⟨x, rfl, (Option.some.inj hi).symm⟩
        obtain ⟨x, gx, rfl⟩ := gx
        have ip : i < pl.length := (List.getElem?_eq_some_iff.mp gx).1
        have hx : x ∈ pl := List.mem_of_getElem? gx
        have uD : u ≠ D := (ne_of_none hD nu).symm
        have S3 := same_new (o := .tup [.int (i : Nat), .str (S x)]) SM nu
        have tk3 : TK H' (upd H' u (.tup [.int (i : Nat), .str (S x)])) := TK.new nu
        have hD3 : (upd H' u (.tup [.int (i : Nat), .str (S x)])) D = some (.lst ws) := by rw [upd_ne uD.symm]; exact hD
        have hW3 := DtAll.keep tk3 hW
        have hu3 : (upd H' u (.tup [.int (i : Nat), .str (S x)])) u = some (.tup [.int (i : Nat), .str (S x)]) := upd_same
        clear hD hW tk3 nu SM
        generalize upd H' u (.tup [.int (i : Nat), .str (S x)]) = H3 at S3 hD3 hW3 hu3
        refine ⟨u, _, rfl, SqT.of hu3, rfl, _, _, rfl, _, _, rfl, rfl, ?_⟩
        refine ⟨_, rfl, _, rfl, .ref t, pl, ts, x, rfl, Dt.keep (TK.of S3) hd, fine, hx, fun H4 L S4 nL hL => ?_⟩
        have SM := S3.trans S4
        have hD := S4 _ _ hD3
        have hW := DtAll.keep (TK.of S4) hW3
        refine ⟨_, rfl, _, _, rfl, rfl, _, rfl, a, _, rfl, .inr (ha.same SM).sq, _, _, rfl, ⟨by omega, by omega, by rw [sqn]; omega, by rw [sqn]; omega⟩, ?_⟩
        refine for_range (lo := ((i : Nat) : Int) + 1) (n := ((((pl.map S).map V.str).length : Int) - (((i : Nat) : Int) + 1)).toNat) (fun j σ' H' => ∃ (x6 : Option V) (ws : List V), σ' = [some (.ref t), some (.ref a), some (.ref D), some (.int ((i : Nat) : Int)), some (.str (S x)), some (.ref L), x6] ∧ Same H H' ∧ H' L = some (.tup (pl.map fun z => .int (dist ts x z))) ∧ H' D = some (.lst ws) ∧ DtAll H' ws ((prs pl ts i ++ (rowP pl ts i).take j).map triD)) ⟨x6, ws, rfl, SM, hL, hD, by rw [List.take_zero, List.append_nil]; exact hW⟩ (fun j σ' H' hj hP => ?_) (fun σ' H' hP => ?_)
        · obtain ⟨x6, ws, rfl, S6, hL, hD, hW⟩ := hP
          rw [sqn] at hj
          have jp : i + 1 + j < pl.length := by omega
          have gy : pl[i + 1 + j]? = some pl[i + 1 + j] := List.getElem?_eq_getElem jp
          generalize pl[i + 1 + j] = y at gy
          have hy : y ∈ pl := List.mem_of_getElem? gy
          have ej : ((i : Nat) : Int) + 1 + (j : Int) = ((i + 1 + j : Nat) : Int) := by omega
          have wl : ws.length = (prs pl ts i ++ (rowP pl ts i).take j).length := by
            have := DtAll.len hW
            rwa [List.length_map] at this
          have b1 := prs_len pl ts i
          have b2 : i * pl.length ≤ 1000 * 1000 := Nat.mul_le_mul (by omega) p1000
          rw [List.length_append, List.length_take, rowP_len] at wl
          have gpy : ((pl.map S).map V.str)[i + 1 + j]? = some (.str (S y)) := by rw [List.getElem?_map, List.getElem?_map, gy]; rfl
          have gd : (pl.map fun z => V.int (dist ts x z))[i + 1 + j]? = some (.int (dist ts x y)) := by rw [List.getElem?_map, gy]; rfl
          refine ⟨_, rfl, .inl ⟨rfl, _, SqL.of hD⟩, _, rfl, _, rfl, L, _, ((i : Nat) : Int) + 1 + (j : Int), _, rfl, rfl, SqT.of hL, by rw [ej]; exact atI_nat gd, ?_⟩
          refine ⟨_, rfl, _, rfl, _, rfl, a, _, ((i : Nat) : Int) + 1 + (j : Int), _, rfl, rfl, (ha.same S6).sq, by rw [ej]; exact atI_nat gpy, (by show 3 ≤ sizeLine; decide), fun e ne => ?_⟩
          have hD2 : (upd H' e (.tup [.int (dist ts x y), .str (S x), .str (S y)])) D = some (.lst ws) := by
            rw [upd_ne (ne_of_none hD ne)]
            exact hD
          refine ⟨D, ws, _, rfl, rfl, hD2, szM (by omega), ?_⟩
          have tk : TK (upd H' e (.tup [.int (dist ts x y), .str (S x), .str (S y)])) (upd (upd H' e (.tup [.int (dist ts x y), .str (S x), .str (S y)])) D (.lst (ws ++ [.ref e]))) := TK.mut hD2
          have Le : L ≠ e := ne_of_none hL ne
          have LD : L ≠ D := ne_of hL hD (by intro z; cases z)
          refine ⟨_, ws ++ [.ref e], rfl, same_put (same_new S6 ne) nD, by rw [upd_ne LD, upd_ne Le]; exact hL, upd_same, ?_⟩
          rw [List.take_add_one, rowP_at gx gy, ← List.append_assoc, List.map_append]
          exact DtAll.app (DtAll.keep ((TK.new ne).trans tk) hW) (.cons (.tup (tk.tup _ _ upd_same) (.cons (.int _) (.cons (.str _) (.cons (.str _) .nil)))) .nil)
        · obtain ⟨x6, ws, rfl, S6, hL, hD, hW⟩ := hP
          refine ⟨_, _, _, _, ws, rfl, S6, hD, ?_⟩
          rw [sqn, List.take_of_length_le (by rw [rowP_len]; omega)] at hW
          rw [prs_succ]
          exact hW
      · obtain ⟨x3, x4, x5, x6, ws, rfl, SM, hD, hW⟩ := hP
        rw [sqn] at hW
        exact ⟨x3, x4, x5, x6, ws, rfl, SM, hD, hW⟩
    · obtain ⟨x3, x4, x5, x6, ws, rfl, SM, hD, hW⟩ := hM
      exact ⟨_, rfl, q H' D ws SM nD hD hW⟩
end
end Far

namespace Far
open PySem PySem.Spec PyProof.Rows L2
open C8 (pss_cut tCut)
open SX (S)
open RZ (ItzT iZipA pi_zipA)
theorem kit_cls (K : PySem.W.Frag) {a b : String} {r : Bool} (h : kitB a b = some r) : PySem.W.kitOne K (.type a) (.type b) = some r := kit_ty h
section
variable {P : Program} {w : World} {K : PySem.W.Frag} {mg : Str → Option Value} {base : Heap}
theorem zip_it {K : PySem.W.Frag} {a b : Addr} {xs ys : List V} {g : TG} {tt : TT} {te : TE} {vs : List Nat} {σ : L2.St} {H1 : Hp} {D : Addr} {Qd : Hp → Prop} (len : xs.length = ys.length) (Pv : Nat → Hp → Prop) (h0 : Pv 0 (upd H1 D (.lst []))) (hl : ∀ i H, Pv i H → SqT K H a xs ∧ SqT K H b ys)
    (hs : ∀ i x y H T, xs[i]? = some x → ys[i]? = some y → Pv i H → H T = none → g (.ref T) (wipe σ vs) (upd H T (.tup [x, y])) fun σ2 H2 => wipe σ2 vs = wipe σ vs ∧ tt σ2 H2 fun b H3 =>
      if b = true then te σ2 H3 fun y H4 => ∃ acc, H4 D = some (.lst acc) ∧ acc.length < sizeLine ∧ Pv (i + 1) (upd H4 D (.lst (acc ++ [y]))) else Pv (i + 1) H3) (hd : ∀ H, Pv xs.length H → Qd H) :
    ∃ W : Nat → Nat → Hp → Prop, (∃ m, W 0 m (upd H1 D (.lst []))) ∧ ∀ i m H, W i m H →
      ((ItzT K a b).stop i H ∧ Qd H) ∨ ((ItzT K a b).go i H ∧ ∃ Nx : Hp → Prop, (∀ H', Nx H' → ∃ m', m' < m ∧ W (i + 1) m' H') ∧ ∀ v H', (ItzT K a b).yld i H v H' → g v (wipe σ vs) H' fun σ2 H2 => wipe σ2 vs = wipe σ vs ∧ tt σ2 H2 fun b H3 =>
        if b = true then te σ2 H3 fun y H4 => ∃ acc, H4 D = some (.lst acc) ∧ acc.length < sizeLine ∧ Nx (upd H4 D (.lst (acc ++ [y]))) else Nx H3) := by
  refine ⟨fun i m H => m = xs.length - i ∧ i ≤ xs.length ∧ Pv i H, ⟨xs.length, by simp, Nat.zero_le _, h0⟩, fun i m H ⟨em, hi, p⟩ => ?_⟩
  obtain ⟨q1, q2⟩ := hl i H p
  by_cases lt : i < xs.length
  · have lt2 : i < ys.length := by omega
    refine .inr ⟨⟨xs, ys, xs[i], ys[i], q1, q2, by simp [lt], by simp [lt2]⟩, Pv (i + 1), fun H' p' => ⟨xs.length - (i + 1), by omega, rfl, lt, p'⟩, fun v H' ⟨T, x, y, ev, nT, eH, hx, hy⟩ => ?_⟩
    rw [ev, eH]
    exact hs i x y H T (hx xs q1) (hy ys q2) p nT
  · have e : i = xs.length := by omega
    rw [e] at p
    exact .inl ⟨⟨xs, ys, q1, q2, .inl (by omega)⟩, hd H p⟩
theorem dt_any {H : Hp} {u : V} {ds : List PyData} (h : Dt H u (.tuple ds)) : ∃ (a : Addr) (xs : List V), u = .ref a ∧ TupAt H a xs ∧ DtAll H xs ds := by
  cases h with
  | tup ha hs => exact ⟨_, _, rfl, .inl ha, hs⟩
  | @tupZ a pl _ o e n d ha =>
    subst e
    exact ⟨_, _, rfl, .inr ⟨o, d, ha⟩, dt_strs H pl⟩
theorem TupAt.ty {K : PySem.W.Frag} {H : Hp} {a : Addr} {xs : List V} (h : TupAt H a xs) : TyX K H (.ref a) (.type "tuple") := h.elim (fun h => .base (.tup h)) fun ⟨_, _, h⟩ => .fTuple h
end
end Far

namespace Far
open PySem PySem.Spec PyProof.Rows PyProof.V L2
/-! ### max, min, sum of a tuple of whole numbers -/
section
variable {prog : Program} {w : World} {A : Around} {E : Value → Shared → Prop} {s : Shared} {t : Addr} {xs : Array (Int × Tok)}
theorem iter_intTup {Q : Value → Shared → Prop} (hl : s.heap.IsTuple t (intItems xs))
    (h : ∀ s₂ : Shared, s₂ = { s with heap := s.heap.push { cls := .type "tuple_iterator", data := .fields #[.ref t, .int 0 0] } } →
      (s₂.heap.IsTupleIter s.heap.objs.size t 0 ∧ s₂.heap.IsTuple t (intItems xs)) → (∀ b ∈ [s.heap.objs.size, t], b < s₂.heap.objs.size) → t ≠ s.heap.objs.size → Q (.ref s.heap.objs.size) s₂) : wpAny (model prog w) A (pyIter (.ref t)) Q E s := by
  have hlt : t < s.heap.objs.size := by obtain ⟨_, e, _⟩ := hl; exact Heap.lt_size e
  refine wpAny_pyIter_tuple hl (h _ rfl ⟨⟨_, Heap.get?_push_size _ rfl, rfl, rfl⟩, hl.at fun o e => Heap.get?_push_of_some _ e⟩ (fun b hb => ?_) (Nat.ne_of_lt hlt))
  show b < (s.heap.push _).objs.size
  rw [Heap.size_push]
  rcases List.mem_cons.mp hb with rfl | hb
  · exact Nat.lt_succ_self _
  · rcases List.mem_cons.mp hb with rfl | hb
    · exact Nat.lt_succ_of_lt hlt
    · cases hb
theorem old_keptT {s : Shared} {o : Obj} {h' : Heap} (k : ∀ b o', b ∉ [s.heap.objs.size] → (s.heap.push o).get? b = some o' → h'.get? b = some o') : ∀ b o', s.heap.get? b = some o' → h'.get? b = some o' :=
  fun b o' e => k b o' (fun hb => absurd (Heap.lt_size e) ((List.mem_singleton.mp hb) ▸ Nat.lt_irrefl _)) (Heap.get?_push_of_some _ e)
theorem max_intTup {Q : Value → Shared → Prop} (hh : A.handled = none) (hl : s.heap.IsTuple t (intItems xs)) (hne : 0 < xs.size)
    (h : ∀ v h' tk, (intItems xs)[argBest (fun i j => decide (numAt xs i > numAt xs j)) (xs.size - 1)]? = some v → (∀ b o, s.heap.get? b = some o → h'.get? b = some o) → Q v { s with heap := h', toks := tk }) :
    wpAny (model prog w) A (call (.builtin "max") [.ref t]) Q E s := by
  refine call_max_walk (iter_intTup hl fun s₂ e st hfp hlI => ?_)
  subst e
  refine ⟨_, _, _, _, _, _, _, rfl, Walks.tuple (A := A.in1) hh _ t hlI (intItems xs), st, hfp, by simpa [intItems] using hne, CmpOf.ints_gt (numAt xs) (fun _ _ => intItems_at), fun v h' tk hP hk => ?_⟩
  exact h v h' tk (by simpa [intItems] using hP) (old_keptT hk)
theorem min_intTup {Q : Value → Shared → Prop} (hh : A.handled = none) (hl : s.heap.IsTuple t (intItems xs)) (hne : 0 < xs.size)
    (h : ∀ v h' tk, (intItems xs)[argBest (fun i j => decide (numAt xs i < numAt xs j)) (xs.size - 1)]? = some v → (∀ b o, s.heap.get? b = some o → h'.get? b = some o) → Q v { s with heap := h', toks := tk }) :
    wpAny (model prog w) A (call (.builtin "min") [.ref t]) Q E s := by
  refine call_min_walk (iter_intTup hl fun s₂ e st hfp hlI => ?_)
  subst e
  refine ⟨_, _, _, _, _, _, _, rfl, Walks.tuple (A := A.in1) hh _ t hlI (intItems xs), st, hfp, by simpa [intItems] using hne, CmpOf.ints_lt (numAt xs) (fun _ _ => intItems_at), fun v h' tk hP hk => ?_⟩
  exact h v h' tk (by simpa [intItems] using hP) (old_keptT hk)
variable {its : List Value} {ns : List Int}
theorem maxT_raw {Q : Value → Shared → Prop} (hh : A.handled = none) (hl : s.heap.IsTuple t its.toArray) (hi : IntsAre its ns) (hne : 0 < ns.length)
    (h : ∀ h' tk M t', (∀ b o, s.heap.get? b = some o → h'.get? b = some o) → M ∈ ns → (∀ a, a ∈ ns → a ≤ M) → Q (.int M t') { s with heap := h', toks := tk }) : wpAny (model prog w) A (call (.builtin "max") [.ref t]) Q E s := by
  obtain ⟨xs, e⟩ := hi.allInts.items
  have hn : numsOf (intItems xs).toList = ns := by rw [← e]; exact hi.numsOf
  rw [nums_intItems] at hn
  subst hn
  rw [e] at hl
  have hsz : 0 < xs.size := by simpa using hne
  refine max_intTup hh hl hsz fun v h' tk hv hk => ?_
  obtain ⟨t, rfl⟩ := intItems_at hv
  obtain ⟨h1, h2⟩ := argBest_gt (numAt xs) (xs.size - 1)
  refine h h' tk _ t hk ?_ fun a ha => ?_
  · rw [numAt_eq]; exact PySem.getD_mem (by rw [List.length_map, Array.length_toList]; omega)
  · obtain ⟨j, hj, rfl⟩ := mem_getD ha
    rw [List.length_map, Array.length_toList] at hj
    rw [← numAt_eq]; exact h2 j (by omega)
theorem minT_raw {Q : Value → Shared → Prop} (hh : A.handled = none) (hl : s.heap.IsTuple t its.toArray) (hi : IntsAre its ns) (hne : 0 < ns.length)
    (h : ∀ h' tk M t', (∀ b o, s.heap.get? b = some o → h'.get? b = some o) → M ∈ ns → (∀ a, a ∈ ns → M ≤ a) → Q (.int M t') { s with heap := h', toks := tk }) : wpAny (model prog w) A (call (.builtin "min") [.ref t]) Q E s := by
  obtain ⟨xs, e⟩ := hi.allInts.items
  have hn : numsOf (intItems xs).toList = ns := by rw [← e]; exact hi.numsOf
  rw [nums_intItems] at hn
  subst hn
  rw [e] at hl
  have hsz : 0 < xs.size := by simpa using hne
  refine min_intTup hh hl hsz fun v h' tk hv hk => ?_
  obtain ⟨t, rfl⟩ := intItems_at hv
  obtain ⟨h1, h2⟩ := argBest_lt (numAt xs) (xs.size - 1)
  refine h h' tk _ t hk ?_ fun a ha => ?_
  · rw [numAt_eq]; exact PySem.getD_mem (by rw [List.length_map, Array.length_toList]; omega)
  · obtain ⟨j, hj, rfl⟩ := mem_getD ha
    rw [List.length_map, Array.length_toList] at hj
    rw [← numAt_eq]; exact h2 j (by omega)
theorem sumT_raw {Q : Value → Shared → Prop} (hh : A.handled = none) (hl : s.heap.IsTuple t its.toArray) (hi : IntsAre its ns)
    (h : ∀ h' tk t', (∀ b o, s.heap.get? b = some o → h'.get? b = some o) → Q (.int ns.sum t') { s with heap := h', toks := tk }) : wpAny (model prog w) A (call (.builtin "sum") [.ref t]) Q E s := by
  obtain ⟨xs, e⟩ := hi.allInts.items
  have hn : numsOf (intItems xs).toList = ns := by rw [← e]; exact hi.numsOf
  rw [nums_intItems] at hn
  rw [e] at hl
  refine PySem.W.ktm_sumG hh hl fun h' tk t' hk => ?_
  have := h h' tk t' hk
  rw [preSum_eq, List.take_of_length_le (by simp), hn]; exact this
end
section
variable {X : Cx}
def rMaxT (K : PySem.W.Frag) : List V → Hp → VK → Prop := fun vs H Q => ∃ (a : Addr) (ns : List Int), vs = [V.ref a] ∧ SqT K H a (ns.map V.int) ∧ 0 < ns.length ∧ ∀ m, m ∈ ns → (∀ y, y ∈ ns → y ≤ m) → Q (.int m) H
def rMinT (K : PySem.W.Frag) : List V → Hp → VK → Prop := fun vs H Q => ∃ (a : Addr) (ns : List Int), vs = [V.ref a] ∧ SqT K H a (ns.map V.int) ∧ 0 < ns.length ∧ ∀ m, m ∈ ns → (∀ y, y ∈ ns → m ≤ y) → Q (.int m) H
def rSumT (K : PySem.W.Frag) : List V → Hp → VK → Prop := fun vs H Q => ∃ (a : Addr) (ns : List Int), vs = [V.ref a] ∧ SqT K H a (ns.map V.int) ∧ Q (.int ns.sum) H
theorem cr_maxT {K : PySem.W.Frag} (hc : X.calm = true) (eK : X.K = K := by rfl) : CallR X (.builtin "max") (rMaxT K) := by
  subst eK
  intro pins s σ H vs us Q I r h
  obtain ⟨a, ns, rfl, hs, hne, q⟩ := h
  obtain ⟨its, rv, hl, _⟩ := I.tuple hs
  rw [Vals.ref1 r]
  exact maxT_raw (I.ok.hd hc) hl rv.ints hne fun h' tk m t' hk h1 h2 => ⟨.int _, H, I.kept hk, ⟨_, rfl⟩, q m h1 h2⟩
theorem cr_minT {K : PySem.W.Frag} (hc : X.calm = true) (eK : X.K = K := by rfl) : CallR X (.builtin "min") (rMinT K) := by
  subst eK
  intro pins s σ H vs us Q I r h
  obtain ⟨a, ns, rfl, hs, hne, q⟩ := h
  obtain ⟨its, rv, hl, _⟩ := I.tuple hs
  rw [Vals.ref1 r]
  exact minT_raw (I.ok.hd hc) hl rv.ints hne fun h' tk m t' hk h1 h2 => ⟨.int _, H, I.kept hk, ⟨_, rfl⟩, q m h1 h2⟩
theorem cr_sumT {K : PySem.W.Frag} (hc : X.calm = true) (eK : X.K = K := by rfl) : CallR X (.builtin "sum") (rSumT K) := by
  subst eK
  intro pins s σ H vs us Q I r h
  obtain ⟨a, ns, rfl, hs, q⟩ := h
  obtain ⟨its, rv, hl, _⟩ := I.tuple hs
  rw [Vals.ref1 r]
  exact sumT_raw (I.ok.hd hc) hl rv.ints fun h' tk t' hk => ⟨.int _, H, I.kept hk, ⟨_, rfl⟩, q⟩
theorem cr_maxL {K : PySem.W.Frag} (hc : X.calm = true) (eK : X.K = K := by rfl) : CallR X (.builtin "max") (rMax K) := by subst eK; exact cr_max hc
theorem cr_minL {K : PySem.W.Frag} (hc : X.calm = true) (eK : X.K = K := by rfl) : CallR X (.builtin "min") (rMin K) := by subst eK; exact cr_min hc
theorem cr_sumL {K : PySem.W.Frag} (hc : X.calm = true) (eK : X.K = K := by rfl) : CallR X (.builtin "sum") (rSum K) := by subst eK; exact cr_sum hc
end
end Far

namespace Far
open PySem PySem.Spec PyProof.Rows L2
open C8 (pss_cut tCut)
open SX (S)
/-! ### the greatest and the least of whole numbers -/
def mxI : List Int → Int
  | [] => 0
  | x :: r => max x (mxI r)
def mxG : List Int → Int
  | [] => 0
  | [x] => x
  | x :: y :: r => max x (mxG (y :: r))
def mnG : List Int → Int
  | [] => 0
  | [x] => x
  | x :: y :: r => min x (mnG (y :: r))
theorem mxG_in : ∀ {l : List Int}, l ≠ [] → mxG l ∈ l ∧ ∀ y ∈ l, y ≤ mxG l
  | [], h => absurd rfl h
  | [x], _ => ⟨List.mem_singleton.mpr rfl, fun y hy => by rw [List.mem_singleton.mp hy]; exact Int.le_refl _⟩
  | x :: y :: r, _ => by
    obtain ⟨h1, h2⟩ := mxG_in (l := y :: r) (by intro z; cases z)
    show max x (mxG (y :: r)) ∈ _ ∧ _
    refine ⟨?_, fun z hz => ?_⟩
    · by_cases c : x ≤ mxG (y :: r)
      · rw [Int.max_eq_right c]
        exact List.mem_cons_of_mem _ h1
      · rw [Int.max_eq_left (by omega)]
        exact List.mem_cons_self ..
    · show z ≤ max x (mxG (y :: r))
      rcases List.mem_cons.mp hz with q | q
      · rw [q]
        exact Int.le_max_left _ _
      · exact Int.le_trans (h2 z q) (Int.le_max_right _ _)
theorem mnG_in : ∀ {l : List Int}, l ≠ [] → mnG l ∈ l ∧ ∀ y ∈ l, mnG l ≤ y
  | [], h => absurd rfl h
  | [x], _ => ⟨List.mem_singleton.mpr rfl, fun y hy => by rw [List.mem_singleton.mp hy]; exact Int.le_refl _⟩
  | x :: y :: r, _ => by
    obtain ⟨h1, h2⟩ := mnG_in (l := y :: r) (by intro z; cases z)
    show min x (mnG (y :: r)) ∈ _ ∧ _
    refine ⟨?_, fun z hz => ?_⟩
    · by_cases c : x ≤ mnG (y :: r)
      · rw [Int.min_eq_left c]
        exact List.mem_cons_self ..
      · rw [Int.min_eq_right (by omega)]
        exact List.mem_cons_of_mem _ h1
    · show min x (mnG (y :: r)) ≤ z
      rcases List.mem_cons.mp hz with q | q
      · rw [q]
        exact Int.min_le_left _ _
      · exact Int.le_trans (Int.min_le_right _ _) (h2 z q)
theorem mxG_is {l : List Int} {m : Int} (h1 : m ∈ l) (h2 : ∀ y ∈ l, y ≤ m) : m = mxG l := by
  obtain ⟨k1, k2⟩ := mxG_in (l := l) (by intro z; rw [z] at h1; cases h1)
  exact Int.le_antisymm (k2 m h1) (h2 _ k1)
theorem mnG_is {l : List Int} {m : Int} (h1 : m ∈ l) (h2 : ∀ y ∈ l, m ≤ y) : m = mnG l := by
  obtain ⟨k1, k2⟩ := mnG_in (l := l) (by intro z; rw [z] at h1; cases h1)
  exact Int.le_antisymm (h2 _ k1) (k2 m h1)
/-- how far a place is from its farthest -/
noncomputable def rch (pl : List Nm) (ts : List Tie) (u : Nm) : Int := mxG (pl.map fun x => dist ts u x)
theorem map_int (pl : List Nm) (f : Nm → Int) : (pl.map fun x => V.int (f x)) = (pl.map f).map V.int := by rw [List.map_map]; rfl
theorem at_name {pl : List Nm} {i : Nat} {v : V} (hi : ((pl.map S).map V.str)[i]? = some v) : ∃ x, pl[i]? = some x ∧ x ∈ pl ∧ v = .str (S x) ∧ pl.take (i + 1) = pl.take i ++ [x] := by
  rw [List.getElem?_map, List.getElem?_map] at hi
  cases el : pl[i]? with
  | none => rw [el] at hi; cases hi
  | some x => rw [el] at hi; exact ⟨x, rfl, List.mem_of_getElem? el, (Option.some.inj hi).symm, by rw [List.take_add_one, el]; rfl⟩
/-- the places whose number is n -/
def thoseD (pl : List Nm) (f : Nm → Int) (n : Int) : PyData := .tuple ((pl.filter fun x => f x == n).map strD)
theorem dts_S (H : Hp) : ∀ pl : List Nm, DtAll H ((pl.map S).map V.str) (pl.map strD)
  | [] => .nil
  | x :: r => .cons (.str _) (dts_S H r)
theorem dts_I (H : Hp) : ∀ ns : List Int, DtAll H (ns.map V.int) (ns.map PyData.int)
  | [] => .nil
  | x :: r => .cons (.int _) (dts_I H r)
theorem take_snoc_filter {pl : List Nm} {f : Nm → Int} {n : Int} {i : Nat} {x : Nm} (h : pl.take (i + 1) = pl.take i ++ [x]) : (pl.take (i + 1)).filter (fun x => f x == n) = (pl.take i).filter (fun x => f x == n) ++ (if f x = n then [x] else []) := by
  rw [h, List.filter_append]
  by_cases c : f x = n
  · rw [if_pos c, List.filter_cons, if_pos (by simp [c])]
    rfl
  · rw [if_neg c, List.filter_cons, if_neg (by simp [c])]
    rfl
end Far

namespace Far
open PySem PySem.Spec PyProof.Rows L2
open SX (S)
/-! ### all pairs, place by place, and their sum -/
noncomputable def prsR (ts : List Tie) : List Nm → List Tri
  | [] => []
  | a :: r => r.map (fun y => (dist ts a y, a, y)) ++ prsR ts r
theorem pairsOf_rec (ts : List Tie) : ∀ pl : List Nm, pairsOf pl ts = prsR ts pl
  | [] => rfl
  | a :: r => by
    have ih := pairsOf_rec ts r
    show prs (a :: r) ts (r.length + 1) = r.map (fun y => (dist ts a y, a, y)) ++ prsR ts r
    rw [← ih]
    unfold pairsOf prs
    rw [List.range_succ_eq_map, List.flatMap_cons, List.flatMap_map]
    rfl
theorem sum_add {α : Type} (f g : α → Int) : ∀ l : List α, (l.map fun x => f x + g x).sum = (l.map f).sum + (l.map g).sum
  | [] => rfl
  | a :: r => by
    have ih := sum_add f g r
    simp only [List.map_cons, List.sum_cons]
    omega
/-- what the ways from u come to -/
noncomputable def sumOf (pl : List Nm) (ts : List Tie) (u : Nm) : Int := (pl.map fun x => dist ts u x).sum
/-- what all ways of two places come to -/
noncomputable def totOf (pl : List Nm) (ts : List Tie) : Int := ((pairsOf pl ts).map (·.1)).sum
theorem tot_twice {ts : List Tie} {d : Nm → Nm → Int} (hd : dist ts = d) : ∀ pl : List Nm, (∀ u ∈ pl, d u u = 0) → (∀ u ∈ pl, ∀ v ∈ pl, d u v = d v u) → (pl.map fun u => (pl.map fun x => d u x).sum).sum = 2 * ((prsR ts pl).map (·.1)).sum
  | [], _, _ => rfl
  | a :: r, h0, hs => by
    have ih := tot_twice hd r (fun u hu => h0 u (List.mem_cons_of_mem _ hu)) fun u hu v hv => hs u (List.mem_cons_of_mem _ hu) v (List.mem_cons_of_mem _ hv)
    have e0 := h0 a (List.mem_cons_self ..)
    have e1 : (r.map fun u => ((a :: r).map fun x => d u x).sum).sum = (r.map fun u => d u a).sum + (r.map fun u => (r.map fun x => d u x).sum).sum := by
      simp only [List.map_cons, List.sum_cons]
      exact sum_add (fun u => d u a) (fun u => (r.map fun x => d u x).sum) r
    have e2 : (r.map fun u => d u a) = r.map fun u => d a u := List.map_congr_left fun u hu => hs u (List.mem_cons_of_mem _ hu) a (List.mem_cons_self ..)
    have e3 : ((prsR ts (a :: r)).map (·.1)).sum = (r.map fun u => d a u).sum + ((prsR ts r).map (·.1)).sum := by
      show ((r.map (fun y => (dist ts a y, a, y)) ++ prsR ts r).map (·.1)).sum = _
      rw [List.map_append, List.sum_append, List.map_map, hd]
      rfl
    rw [List.map_cons, List.sum_cons, e1, e2, ih, e3, List.map_cons, List.sum_cons, e0]
    omega
theorem tot_sums {pl : List Nm} {ts : List Tie} (F : IsTree pl ts) : (pl.map (sumOf pl ts)).sum = 2 * totOf pl ts := by
  unfold totOf
  rw [pairsOf_rec]
  exact tot_twice rfl pl (fun u _ => (F.dist_self u).1) fun u hu v hv => (F.dist_symm hu hv).1
end Far

namespace Far
open PySem PySem.Spec PyProof.Rows L2
open C8 (pss_cut tCut)
open SX (S)
/-! ### the greatest of triples -/
def best : List Tri → Int
  | [] => 0
  | x :: r => r.foldl (fun m y => max m y.1) x.1
theorem fold_max : ∀ (r : List Tri) (m : Int), (r.foldl (fun m y => max m y.1) m = m ∨ r.foldl (fun m y => max m y.1) m ∈ r.map (·.1)) ∧ m ≤ r.foldl (fun m y => max m y.1) m ∧ ∀ y ∈ r, y.1 ≤ r.foldl (fun m y => max m y.1) m
  | [], m => ⟨.inl rfl, Int.le_refl _, fun y hy => (by cases hy)⟩
  | x :: r, m => by
    obtain ⟨h1, h2, h3⟩ := fold_max r (max m x.1)
    refine ⟨?_, ?_, fun y hy => ?_⟩
    · show r.foldl _ (max m x.1) = m ∨ r.foldl _ (max m x.1) ∈ x.1 :: r.map (·.1)
      rcases h1 with h1 | h1
      · rw [h1]
        by_cases z : m ≤ x.1
        · exact .inr (by rw [Int.max_eq_right z]; exact List.mem_cons_self ..)
        · exact .inl (Int.max_eq_left (by omega))
      · exact .inr (List.mem_cons_of_mem _ h1)
    · show m ≤ r.foldl _ (max m x.1)
      exact Int.le_trans (Int.le_max_left _ _) h2
    · show y.1 ≤ r.foldl _ (max m x.1)
      rcases List.mem_cons.mp hy with z | z
      · rw [z]
        exact Int.le_trans (Int.le_max_right _ _) h2
      · exact h3 y z
theorem best_is {ps : List Tri} {m : Int} (h1 : m ∈ ps.map (·.1)) (h2 : ∀ y ∈ ps.map (·.1), y ≤ m) : best ps = m := by
  cases ps with
  | nil => cases h1
  | cons x r =>
    obtain ⟨k1, k2, k3⟩ := fold_max r x.1
    show r.foldl (fun m y => max m y.1) x.1 = m
    have a : r.foldl (fun m y => max m y.1) x.1 ≤ m := by
      rcases k1 with k1 | k1
      · rw [k1]
        exact h2 _ (List.mem_cons_self ..)
      · exact h2 _ (List.mem_cons_of_mem _ k1)
    have b : m ≤ r.foldl (fun m y => max m y.1) x.1 := by
      rcases List.mem_cons.mp h1 with z | z
      · rw [z]
        exact k2
      · obtain ⟨y, hy, e⟩ := List.mem_map.mp z
        rw [← e]
        exact k3 y hy
    omega
/-- the pairs of the greatest length, in order -/
noncomputable def farOf (pl : List Nm) (ts : List Tie) : List Tri := (pairsOf pl ts).filter fun x => x.1 == best (pairsOf pl ts)
/-- what farthest tells -/
noncomputable def farD (pl : List Nm) (ts : List Tie) : PyData := match farOf pl ts with
  | [] => .tuple [.int 0, .str (S (pl.headD [])), .str (S (pl.headD []))]
  | x :: _ => triD x
/-- what all_farthest tells -/
noncomputable def allD (pl : List Nm) (ts : List Tie) : PyData := .tuple ((farOf pl ts).map fun x => .tuple [.str (S x.2.1), .str (S x.2.2)])
theorem farOf_none {pl : List Nm} {ts : List Tie} (h : pairsOf pl ts = []) : farOf pl ts = [] := by
  unfold farOf
  rw [h]
  rfl
theorem mem_prs {pl : List Nm} {ts : List Tie} {x : Tri} : ∀ {n : Nat}, n ≤ pl.length → x ∈ prs pl ts n → x.2.1 ∈ pl ∧ x.2.2 ∈ pl ∧ x.1 = dist ts x.2.1 x.2.2
  | 0, _, h => by cases h
  | n + 1, hn, h => by
    rw [prs_succ] at h
    rcases List.mem_append.mp h with h | h
    · exact mem_prs (by omega) h
    · obtain ⟨y, hy, rfl⟩ := List.mem_map.mp h
      refine ⟨?_, List.mem_of_mem_drop hy, rfl⟩
      show pl.getD n [] ∈ pl
      have e : pl.getD n [] = pl[n]'(by omega) := by simp [List.getD, show n < pl.length by omega]
      rw [e]
      exact List.getElem_mem _
theorem mem_pairs {pl : List Nm} {ts : List Tie} {x : Tri} (h : x ∈ pairsOf pl ts) : x.2.1 ∈ pl ∧ x.2.2 ∈ pl ∧ x.1 = dist ts x.2.1 x.2.2 := mem_prs (Nat.le_refl _) h
theorem dt_tri {H : Hp} {v : V} {x : Tri} (h : Dt H v (triD x)) : ∃ t : Addr, v = .ref t ∧ H t = some (.tup [.int x.1, .str (S x.2.1), .str (S x.2.2)]) := by
  obtain ⟨t, xs, rfl, ht, hs⟩ := dt_tup h fun _ => ⟨.int x.1, by simp, fun l z => nomatch z⟩
  cases hs with
  | cons h1 hr =>
    cases hr with
    | cons h2 hr =>
      cases hr with
      | cons h3 hr =>
        cases hr
        cases h1
        cases h2
        cases h3
        exact ⟨t, rfl, ht⟩
theorem lay_tris : ∀ {xs : List Tri}, (∀ x ∈ xs, NameOk x.2.1 ∧ NameOk x.2.2) → PyData.canLayAll0 (xs.map triD) = true
  | [], _ => rfl
  | x :: r, h => by
    obtain ⟨h1, h2⟩ := h x (List.mem_cons_self ..)
    have ih := lay_tris fun y hy => h y (List.mem_cons_of_mem _ hy)
    show (PyData.canLay0 (triD x) && PyData.canLayAll0 (r.map triD)) = true
    rw [ih, Bool.and_true]
    show (true && (PyData.strOk (S x.2.1) && (PyData.strOk (S x.2.2) && true))) = true
    rw [strOk_S h1, strOk_S h2]
    rfl
theorem dep_tris : ∀ xs : List Tri, PyData.depthAll (xs.map triD) ≤ 1
  | [] => Nat.zero_le _
  | x :: r => by
    show max (PyData.depth (triD x)) (PyData.depthAll (r.map triD)) ≤ 1
    have ih := dep_tris r
    have e : PyData.depth (triD x) = 1 := rfl
    rw [e]
    omega
theorem shaped_tris {xs : List Tri} (h : ∀ x ∈ xs, NameOk x.2.1 ∧ NameOk x.2.2) : SeqAt.shaped (.list (xs.map triD)) = true := by
  show (PyData.canLayAll0 (xs.map triD) && decide (PyData.depthAll (xs.map triD) + 1 ≤ 64)) = true
  have := dep_tris xs
  rw [lay_tris h, decide_eq_true (by omega)]
  rfl
end Far

namespace Far
open PySem PySem.Spec PyProof.Rows L2
section
variable {X : Cx}
theorem countU {x : V} : ∀ {ys : List V} {us : List Value}, Vals ys us → ys.all flatV = true → us.countP (eqU x) = ys.countP (fun y => eqV y x)
  | _, _, .nil, _ => rfl
  | y :: ys, u :: us, .cons r t, f => by
    rw [List.all_cons, Bool.and_eq_true] at f
    rw [List.countP_cons, List.countP_cons, eqU_of r f.1, countU t f.2]
/-- list.count of a flat value in a list of flat values -/
def rCountV (K : PySem.W.Frag) : V → List V → Hp → VK → Prop := fun x xs H Q => ∃ (p : Addr) (ys : List V) (y : V), x = .ref p ∧ xs = [y] ∧ SqL K H p ys ∧ flatV y = true ∧ ys.all flatV = true ∧ Q (.int (ys.countP (fun z => eqV z y) : Nat)) H
theorem mt_countV {K : PySem.W.Frag} (eK : X.K = K := by rfl) : MtR X "list.count" (rCountV K) := by
  subst eK
  intro pins s σ H x xs v us Q I rx rxs h
  obtain ⟨p, ys, y, rfl, rfl, hs, fy, fys, q⟩ := h
  cases rx
  obtain ⟨u, rfl, ru⟩ := rxs.one
  obtain ⟨its, rv, ⟨⟨cl, di, da, so⟩, n, ho, hc, hdn, hd⟩, hl⟩ := I.list hs
  simp only at hc hd
  subst hc hd
  refine call_meets PySem.F.slot_list_count ⟨_, ho, rfl⟩ PySem.F.entry_list_count (PySem.F.args_list_count_2 _ _) (SeqAt.list_countAt p its.toArray n di so u (eqU y)) ⟨ho, fun z hz => mem_eqAt ru fy rv fys z (by simpa using hz), ?_⟩
  refine ⟨.int (ys.countP (fun z => eqV z y) : Nat), H, I.tok _, ⟨s.toks, ?_⟩, q⟩
  have e : its.toArray.toList.countP (eqU y) = ys.countP (fun z => eqV z y) := countU rv fys
  rw [e]

end
end Far

namespace Far
open PySem PySem.Spec PyProof.Rows L2
/-! ### dicts with flat values: ==, != (all the same, or of another length) -/
theorem hits_flat {A : Around} {s : Shared} {ls : List (Key × V)} {vb : List (Key × Value)} (rb : KV ls vb) {ks : List (Key × V)} {va : List (Key × Value)}
    (ra : KV ks va) : (∀ p ∈ ks, valV ls p.1 = some p.2 ∧ flatB p.2 = true) → PySem.W.KeqHits A s vb va true := by
  unfold KV at ra
  induction ra with
  | nil => intro _; exact .nil
  | @cons p q ps qs h t k =>
    intro hp
    obtain ⟨h1, h2⟩ := h
    obtain ⟨e, f⟩ := hp p List.mem_cons_self
    have rr : RelO (some p.2) (valueAt vb p.1) := by rw [← e]; exact rb.val p.1
    obtain ⟨y, hy, ry⟩ := rr.some_of
    obtain ⟨key, v⟩ := q
    have h1' : p.1 = key := h1
    rw [h1'] at hy
    show PySem.W.KeqHits A s vb ((key, v) :: qs) (true && true)
    exact .hit hy (eqAt_same h2 ry f) (k fun p' hm => hp p' (List.mem_cons_of_mem _ hm))
def rDK (g : Bool → Bool) : V → V → Hp → VK → Prop := fun x y H Q => ∃ a b ks ls r, x = .ref a ∧ y = .ref b ∧ H a = some (.dK ks) ∧ H b = some (.dK ls) ∧
  ((r = true ∧ ks.length = ls.length ∧ ∀ p ∈ ks, valV ls p.1 = some p.2 ∧ flatB p.2 = true) ∨ (r = false ∧ ks.length ≠ ls.length)) ∧ Q (.bl (g r)) H
theorem op_eqDK {X : Cx} (hu : X.A.units + 64 < cLine) : OpR X (compareOp .Eq) (rDK id) := by
  intro pins s σ H x y v u Q I rx ry h
  obtain ⟨a, b, ks, ls, r, rfl, rfl, ha, hb, hc, q⟩ := h
  cases (show v = Value.ref a from rx)
  cases (show u = Value.ref b from ry)
  obtain ⟨_, ya, va, ra, da⟩ := (show ObjOk X.prog X.w H s.heap a (.dK ks) from I.hok a _ ha)
  obtain ⟨_, yb, vb, rb, db⟩ := (show ObjOk X.prog X.w H s.heap b (.dK ls) from I.hok b _ hb)
  refine PySem.W.keq_eq (knd := mixKind X.prog X.w) (r := true) ya yb da db (by omega) (fun e => ?_) ?_
  · rcases hc with ⟨_, _, h⟩ | ⟨_, n⟩
    · exact hits_flat rb ra h
    · exact absurd (by rw [ra.length, rb.length]; exact e) n
  · have e : (va.length == vb.length && true) = r := by
      rw [Bool.and_true, ← ra.length, ← rb.length]
      rcases hc with ⟨h1, h2, _⟩ | ⟨h1, h2⟩
      · rw [h1, h2]; simp
      · rw [h1]; simpa using h2
    rw [e]
    exact ⟨.bl r, H, I, rfl, q⟩
theorem op_neDK {X : Cx} (hu : X.A.units + 64 < cLine) : OpR X (compareOp .NotEq) (rDK not) := by
  intro pins s σ H x y v u Q I rx ry h
  obtain ⟨a, b, ks, ls, r, rfl, rfl, ha, hb, hc, q⟩ := h
  cases (show v = Value.ref a from rx)
  cases (show u = Value.ref b from ry)
  obtain ⟨_, ya, va, ra, da⟩ := (show ObjOk X.prog X.w H s.heap a (.dK ks) from I.hok a _ ha)
  obtain ⟨_, yb, vb, rb, db⟩ := (show ObjOk X.prog X.w H s.heap b (.dK ls) from I.hok b _ hb)
  refine PySem.W.keq_ne (knd := mixKind X.prog X.w) (r := true) ya yb da db (by omega) (fun e => ?_) ?_
  · rcases hc with ⟨_, _, h⟩ | ⟨_, n⟩
    · exact hits_flat rb ra h
    · exact absurd (by rw [ra.length, rb.length]; exact e) n
  · have e : (va.length == vb.length && true) = r := by
      rw [Bool.and_true, ← ra.length, ← rb.length]
      rcases hc with ⟨h1, h2, _⟩ | ⟨h1, h2⟩
      · rw [h1, h2]; simp
      · rw [h1]; simpa using h2
    rw [e]
    exact ⟨.bl (!r), H, I, rfl, q⟩
theorem bt_sorted : bootBuiltins ("sorted" : Str) = some (.builtin "sorted") := by decide +kernel
theorem bt_dict : bootBuiltins ("dict" : Str) = some (.type "dict") := by decide +kernel
theorem lay_ints : ∀ ls : List Int, PyData.canLayAll0 (ls.map PyData.int) = true
  | [] => rfl
  | x :: r => by
    show (PyData.canLay0 (.int x) && PyData.canLayAll0 (r.map PyData.int)) = true
    rw [lay_ints r]
    rfl
theorem dep_ints : ∀ ls : List Int, PyData.depthAll (ls.map PyData.int) ≤ 1
  | [] => Nat.zero_le _
  | x :: r => by
    show max (PyData.depth (.int x)) (PyData.depthAll (r.map PyData.int)) ≤ 1
    have ih := dep_ints r
    have e : PyData.depth (.int x) = 0 := rfl
    rw [e]
    omega
theorem shaped_intL (ls : List Int) : SeqAt.shaped (.list (ls.map PyData.int)) = true := by
  show (PyData.canLayAll0 (ls.map PyData.int) && decide (PyData.depthAll (ls.map PyData.int) + 1 ≤ 64)) = true
  have := dep_ints ls
  rw [lay_ints, decide_eq_true (by omega)]
  rfl
theorem eqv_ints : ∀ ls : List Int, (PyData.list (ls.map PyData.int)).eqv (.list (ls.map PyData.int)) = true
  | [] => by decide +kernel
  | x :: r => by
    have ih := eqv_ints r
    show ((x == x) && _) = true
    simp
    exact ih
theorem dpI (K : PySem.W.Frag) (H : Hp) : ∀ ls : List Int, DpAll K H (ls.map V.int) (ls.map PyData.int)
  | [] => .nil
  | x :: r => .cons (.int _) (dpI K H r)
/-! ### counting into a dict -/
def dd (s : List Int) : List Int := s.foldl (fun ks x => if x ∈ ks then ks else ks ++ [x]) []
theorem dd_snoc (s : List Int) (x : Int) : dd (s ++ [x]) = if x ∈ dd s then dd s else dd s ++ [x] := by
  unfold dd
  rw [List.foldl_append]
  rfl
def ikm (ks : List Int) (f : Int → V) : List (Key × V) := ks.map fun n => (Sum.inl n, f n)
theorem ikm_val (f : Int → V) (x : Int) : ∀ ks : List Int, valV (ikm ks f) (Sum.inl x) = if x ∈ ks then some (f x) else none
  | [] => rfl
  | a :: r => by
    show valV ((Sum.inl a, f a) :: ikm r f) (Sum.inl x) = _
    by_cases e : a = x
    · subst e
      rw [valV_pos rfl, if_pos (List.mem_cons_self ..)]
    · rw [valV_neg (fun z => e (Sum.inl.inj z)), ikm_val f x r]
      have : (x ∈ a :: r) ↔ x ∈ r := by
        rw [List.mem_cons]
        exact ⟨fun h => h.elim (fun z => absurd z.symm e) id, .inr⟩
      simp only [this]
theorem ikm_put (f : Int → V) (x : Int) (v : V) (ks : List Int) : putK (ikm ks f) (Sum.inl x) v = ikm (if x ∈ ks then ks else ks ++ [x]) (fun z => if z = x then v else f z) := by
  unfold putK
  rw [valV_any, ikm_val]
  by_cases h : x ∈ ks
  · rw [if_pos h, if_pos h, if_pos (by rfl)]
    unfold ikm
    rw [List.map_map]
    refine List.map_congr_left fun a _ => ?_
    show (if (Sum.inl a : Key) = Sum.inl x then ((Sum.inl a : Key), v) else (Sum.inl a, f a)) = (Sum.inl a, if a = x then v else f a)
    by_cases e : a = x
    · rw [if_pos (by rw [e]), if_pos e]
    · rw [if_neg (fun z => e (Sum.inl.inj z)), if_neg e]
  · rw [if_neg h, if_neg h, if_neg (by simp)]
    unfold ikm
    rw [List.map_append]
    refine congr (congrArg _ (List.map_congr_left fun a ha => ?_)) ?_
    · show (Sum.inl a, f a) = (Sum.inl a, if a = x then v else f a)
      rw [if_neg (fun (z : a = x) => h (z ▸ ha))]
    · show [(Sum.inl x, v)] = [(Sum.inl x, if x = x then v else f x)]
      rw [if_pos rfl]
theorem ikm_cong {f g : Int → V} {ks : List Int} (h : ∀ n ∈ ks, f n = g n) : ikm ks f = ikm ks g := List.map_congr_left fun a ha => by rw [h a ha]
theorem ikm_len (ks : List Int) (f : Int → V) : (ikm ks f).length = ks.length := by unfold ikm; rw [List.length_map]
theorem dd_len (s : List Int) : (dd s).length ≤ s.length := by
  have : ∀ r : List Int, ∀ t : List Int, t.reverse = r → (dd t).length ≤ t.length := by
    intro r
    induction r with
    | nil =>
      intro t e
      rw [List.reverse_eq_nil_iff.mp e]
      exact Nat.le_refl _
    | cons x r ih =>
      intro t e
      have e2 : t = r.reverse ++ [x] := by rw [← List.reverse_reverse t, e, List.reverse_cons]
      subst e2
      have := ih r.reverse (List.reverse_reverse r)
      rw [dd_snoc, List.length_append, List.length_singleton]
      split
      · omega
      · rw [List.length_append, List.length_singleton]
        omega
  exact this s.reverse s rfl
theorem dd_mem (s : List Int) : ∀ x, x ∈ dd s ↔ x ∈ s := by
  have : ∀ r : List Int, ∀ t : List Int, t.reverse = r → ∀ x, x ∈ dd t ↔ x ∈ t := by
    intro r
    induction r with
    | nil =>
      intro t e
      rw [List.reverse_eq_nil_iff.mp e]
      intro x
      exact Iff.rfl
    | cons y r ih =>
      intro t e
      have e2 : t = r.reverse ++ [y] := by rw [← List.reverse_reverse t, e, List.reverse_cons]
      subst e2
      intro x
      have := ih r.reverse (List.reverse_reverse r)
      rw [dd_snoc]
      split
      · rename_i h
        rw [this x, List.mem_append, List.mem_singleton]
        exact ⟨.inl, fun z => z.elim id fun z => by rw [z]; exact (this y).mp h⟩
      · rw [List.mem_append, List.mem_append, this x]
  exact this s.reverse s rfl
def cntF (s : List Int) (n : Int) : V := .int ((s.countP fun z => z == n : Nat) : Int)
/-- one more of x -/
theorem cnt_step (t : List Int) (x : Int) : putK (ikm (dd t) (cntF t)) (Sum.inl x) (.int (((t.countP fun z => z == x : Nat) : Int) + 1)) = ikm (dd (t ++ [x])) (cntF (t ++ [x])) := by
  rw [ikm_put, ← dd_snoc]
  refine ikm_cong fun n _ => ?_
  unfold cntF
  rw [List.countP_append]
  by_cases e : n = x
  · rw [if_pos e, e]
    simp
  · rw [if_neg e]
    have : ([x].countP fun z => z == n) = 0 := by
      rw [List.countP_cons]
      simp
      exact fun z => e z.symm
    rw [this, Nat.add_zero]
/-- all of x at once -/
theorem all_step (s t : List Int) (x : Int) : putK (ikm (dd t) (cntF s)) (Sum.inl x) (cntF s x) = ikm (dd (t ++ [x])) (cntF s) := by
  rw [ikm_put, ← dd_snoc]
  refine ikm_cong fun n _ => ?_
  by_cases e : n = x
  · rw [if_pos e, e]
  · rw [if_neg e]
theorem cnt_none {t : List Int} {x : Int} (h : x ∉ dd t) : (t.countP fun z => z == x) = 0 := by
  rw [List.countP_eq_zero]
  intro a ha z
  have : a = x := by simpa using z
  exact h ((dd_mem t x).mpr (this ▸ ha))
theorem sorted_one {a b : List Int} (p : a.Perm b) (ha : a.Pairwise (· ≤ ·)) (hb : b.Pairwise (· ≤ ·)) : a = b := List.Perm.eq_of_pairwise (fun x y _ _ h1 h2 => Int.le_antisymm h1 h2) ha hb p
end Far

namespace Far
open PySem PySem.Spec PyProof.Rows L2
open C8 (pss_cut tCut)
open SX (S)
def spLaw (K : PySem.W.Frag) : Sp := fun vs H Q _ => ∃ (a : Addr) (ns : List Int), vs = [.ref a] ∧ SqL K H a (ns.map V.int) ∧ ns.length ≤ 63 ∧ ∀ H', Q (.bl true) H'
theorem SqL.same {K : PySem.W.Frag} {H H' : Hp} {a : Addr} {xs : List V} (h : SqL K H a xs) (s : Same H H') : SqL K H' a xs := by
  rcases h with (h | ⟨o, h⟩) | h
  · exact .inl (.inl (s _ _ h))
  · exact .inl (.inr ⟨o, s _ _ h⟩)
  · exact .inr h
theorem fine_one : Fine [[97]] [] := ⟨⟨[[97]], [], .one _, .refl _, .refl _⟩, fun l hl => by rw [List.mem_singleton.mp hl]; exact ⟨by decide, by decide, by decide⟩, by decide⟩
theorem fine_ba {k : Int} (h1 : 1 ≤ k) (h2 : k ≤ 1000000) : Fine [[98], [97]] [([97], [98], k)] := by
  refine ⟨⟨[[97], [98]], [([97], [98], k)], ?_, .swap _ _ _, .refl _⟩, fun l hl => ?_, by decide⟩
  · exact Grown.leaf (os := [[97]]) (es := []) (a := [97]) (b := [98]) (k := k) (.one _) (by decide) (by decide) (.inl rfl) h1 h2
  · rcases List.mem_cons.mp hl with z | z
    · rw [z]
      exact ⟨by decide, by decide, by decide⟩
    · rw [List.mem_singleton.mp z]
      exact ⟨by decide, by decide, by decide⟩
theorem fine_ab {k : Int} (h1 : 1 ≤ k) (h2 : k ≤ 1000000) : Fine [[97], [98]] [([98], [97], k)] := by
  refine ⟨⟨[[97], [98]], [([98], [97], k)], ?_, .refl _, .refl _⟩, fun l hl => ?_, by decide⟩
  · exact Grown.leaf (os := [[97]]) (es := []) (a := [97]) (b := [98]) (k := k) (.one _) (by decide) (by decide) (.inr rfl) h1 h2
  · rcases List.mem_cons.mp hl with z | z
    · rw [z]
      exact ⟨by decide, by decide, by decide⟩
    · rw [List.mem_singleton.mp z]
      exact ⟨by decide, by decide, by decide⟩
theorem d_one : dist [] [97] [97] = 0 := (fine_one.tree.dist_self _).1
theorem d_ba {k : Int} (h1 : 1 ≤ k) (h2 : k ≤ 1000000) : dist [([97], [98], k)] [98] [97] = k ∧ dist [([97], [98], k)] [97] [98] = k ∧ dist [([97], [98], k)] [97] [97] = 0 ∧ dist [([97], [98], k)] [98] [98] = 0 := by
  have F := (fine_ba h1 h2).tree
  have w1 : Way [([97], [98], k)] ([98] : Nm) [97] ([[98]] ++ [[97]]) (0 + k) := .snoc .nil (.inr (by simp)) (by decide)
  have w2 : Way [([97], [98], k)] ([97] : Nm) [98] ([[97]] ++ [[98]]) (0 + k) := .snoc .nil (.inl (by simp)) (by decide)
  exact ⟨by rw [(F.is_way w1).2]; omega, by rw [(F.is_way w2).2]; omega, (F.dist_self _).1, (F.dist_self _).1⟩
theorem d_ab {k : Int} (h1 : 1 ≤ k) (h2 : k ≤ 1000000) : dist [([98], [97], k)] [98] [97] = k ∧ dist [([98], [97], k)] [97] [98] = k := by
  have F := (fine_ab h1 h2).tree
  have w1 : Way [([98], [97], k)] ([98] : Nm) [97] ([[98]] ++ [[97]]) (0 + k) := .snoc .nil (.inl (by simp)) (by decide)
  have w2 : Way [([98], [97], k)] ([97] : Nm) [98] ([[97]] ++ [[98]]) (0 + k) := .snoc .nil (.inr (by simp)) (by decide)
  exact ⟨by rw [(F.is_way w1).2]; omega, by rw [(F.is_way w2).2]; omega⟩
end Far

namespace Far
open PySem PySem.Spec PyProof.Rows L2
open C8 (pss_cut tCut)
open SX (S)
open RZ (ItzT iZipA pi_zipA)
structure TxtM15 (mg : Str → Option Value) : Prop where
  tuple : mg "tuple" = none
  sum : mg "sum" = none
  min : mg "min" = none
  zip : mg "zip" = none
  range : mg "range" = none
noncomputable def leastN (pl : List Nm) (ts : List Tie) : Int := mnG (pl.map (sumOf pl ts))
noncomputable def sumsD (pl : List Nm) (ts : List Tie) : PyData := .tuple ((pl.map (sumOf pl ts)).map .int)
noncomputable def leastD (pl : List Nm) (ts : List Tie) : PyData := thoseD pl (sumOf pl ts) (leastN pl ts)
abbrev s_sums_from : Stmt := topS 13
abbrev N_sums_from : List Str := ["tree", "place"]
theorem sc_sums_from : FnScope N_sums_from ["tree"] (defScope s_sums_from) := ⟨rfl, rfl, rfl, by decide +kernel, rfl, by decide +kernel, by decide +kernel⟩
abbrev s_least_sums : Stmt := topS 14
abbrev N_least_sums : List Str := ["tree", "sums", "least", "place", "found"]
theorem sc_least_sums : FnScope N_least_sums ["tree"] (defScope s_least_sums) := ⟨rfl, rfl, rfl, by decide +kernel, rfl, by decide +kernel, by decide +kernel⟩
abbrev s_total_of : Stmt := topS 15
abbrev N_total_of : List Str := ["tree", "pair"]
theorem sc_total_of : FnScope N_total_of ["tree"] (defScope s_total_of) := ⟨rfl, rfl, rfl, by decide +kernel, rfl, by decide +kernel, by decide +kernel⟩
section
variable {P : Program} {w : World} {K : PySem.W.Frag} {mg : Str → Option Value} {base : Heap}
def spSums : Sp := fun vs H Q _ => ∃ (v : V) (pl : List Nm) (ts : List Tie), vs = [v] ∧ Dt H v (treeD pl ts) ∧ Fine pl ts ∧ ∀ (H' : Hp) (q : Addr), Same H H' → H q = none → H' q = some (.tup ((pl.map (sumOf pl ts)).map V.int)) → Q (.ref q) H'
def spLeast : Sp := fun vs H Q _ => ∃ (v : V) (pl : List Nm) (ts : List Tie), vs = [v] ∧ Dt H v (treeD pl ts) ∧ Fine pl ts ∧ ∀ (H' : Hp) (r : V), Same H H' → Dt H' r (leastD pl ts) → Q r H'
def spTotal : Sp := fun vs H Q _ => ∃ (v : V) (pl : List Nm) (ts : List Tie), vs = [v] ∧ Dt H v (treeD pl ts) ∧ Fine pl ts ∧ ∀ H' : Hp, Same H H' → Q (.int (totOf pl ts)) H'
theorem ok_sums {f : Addr} {fd : FuncData} (F : Fun K "sums_from" "sums_from" s_sums_from f fd) (T : TxtM15 mg) (Clengths_from : Cal P w K mg base 3 "lengths_from" spLens) : FnOk P w K mg base CX0 4 f fd ["tree"] spSums := by
  refine F.ok sc_sums_from (fun vs H Q E h => ?_) (fun cdv A outer s H vs Q E hr h => ?_)
  · obtain ⟨v, pl, ts, rfl, _⟩ := h
    rfl
  · obtain ⟨v, pl, ts, rfl, hd, fine, q⟩ := h
    obtain ⟨t, a, b, vs, rfl, ht, ha, hb, hA⟩ := dt_tree hd
    have pl1 := fine.len
    refine ⟨_, (pss_one (ps_ret (pe_tupleOf (by rfl) T.tuple (pe_lc (own := [("place", 1)]) (g := gName 1) (tt := tYes) rfl sc_sums_from.nd (pi_tup (pe_ix ix_tup (pv 0) pe_int (fun _ _ => rfl))) (blkOk_by (N := N_sums_from) (sc := defScope s_sums_from) (by decide +kernel)) (fun _ _ _ _ _ => pg_name (i := 1) sc_sums_from.nd rfl (Or.inl rfl)) (fun _ _ _ _ _ => pts_nil) (fun _ _ _ _ _ => (pe_callB (cr_sumT (K := K) rfl) (by rfl) T.sum bt_sum (pa_cons (pe_c Clengths_from hr (by decide) rfl (pa_cons (pv 0) (pa_cons (pv 1) pa_nil))) pa_nil))))))), ?_⟩
    refine ⟨_, rfl, t, _, 0, .ref a, rfl, rfl, SqT.of ht, atI_nat (j := 0) rfl, a, rfl, ⟨_, ha.sq⟩, fun D nD => ?_⟩
    refine lc_tup (K := K) (a := a) (xs := (pl.map S).map V.str) (fun i H' => Same H H' ∧ H' D = some (.lst (((pl.take i).map (sumOf pl ts)).map V.int))) ⟨same_new (Same.refl H) nD, upd_same⟩ (fun i H' _ hP => (ha.same hP.1).sq) (fun i v H' hi hP => ?_) (fun H' hP => ?_)
    · obtain ⟨SM, hD⟩ := hP
      obtain ⟨x, ex, hx, rfl, et⟩ := at_name hi
      refine ⟨rfl, _, rfl, _, rfl, .ref t, pl, ts, x, rfl, Dt.keep (TK.of SM) hd, fine, hx, fun H2 L S2 nL hL => ?_⟩
      rw [map_int] at hL
      refine ⟨L, _, rfl, SqT.of hL, ?_⟩
      refine ⟨_, S2 _ _ hD, ?_, same_put (SM.trans S2) nD, ?_⟩
      · rw [List.length_map, List.length_map, List.length_take]
        exact sz_lt (by omega)
      · rw [upd_same, et, List.map_append, List.map_append]
        rfl
    · obtain ⟨SM, hD⟩ := hP
      rw [List.length_map, List.length_map, List.take_length] at hD
      exact .inl ⟨D, _, rfl, SqL.of hD, fun q1 nq1 => q _ q1 (same_new SM nq1) (SM.free nq1) upd_same⟩
theorem ok_least_sums {f : Addr} {fd : FuncData} (F : Fun K "least_sums" "least_sums" s_least_sums f fd) (T : TxtM15 mg) (Csums_from : Cal P w K mg base 4 "sums_from" spSums) : FnOk P w K mg base CX0 5 f fd ["tree"] spLeast := by
  refine F.ok sc_least_sums (fun vs H Q E h => ?_) (fun cdv A outer s H vs Q E hr h => ?_)
  · obtain ⟨v, pl, ts, rfl, _⟩ := h
    rfl
  · obtain ⟨v, pl, ts, rfl, hd, fine, q⟩ := h
    obtain ⟨t, a, b, vs, rfl, ht, ha, hb, hA⟩ := dt_tree hd
    have pl1 := fine.len
    have pl0 : 0 < (pl.map (sumOf pl ts)).length := by
      rw [List.length_map]
      exact List.length_pos_iff.mpr fine.ne
    refine ⟨_, (pss_cons (ps_set (i := 1) sc_least_sums.nd rfl (.inl rfl) (pe_c Csums_from hr (by decide) rfl (pa_cons (pv 0) pa_nil)))
      (pss_cons (ps_set (i := 2) sc_least_sums.nd rfl (.inr rfl) (pe_callB (cr_minT (K := K) rfl) (by rfl) T.min bt_min (pa_cons (pv 1) pa_nil)))
      (pss_one (ps_ret (pe_tupleOf (by rfl) T.tuple (pe_lc (own := [("place", 3), ("found", 4)]) (g := gTup K 2 (gCons (gName 3) (gCons (gName 4) gNil)))  rfl sc_least_sums.nd (pi_zipA (by rfl) T.zip (pa_cons (pe_ix ix_tup (pv 0) pe_int (fun _ _ => rfl)) (pa_cons (pv 1) pa_nil))) (blkOk_by (N := N_least_sums) (sc := defScope s_least_sums) (by decide +kernel)) (fun _ _ _ _ _ => (pg_tup rfl (pgs_cons (pg_name (i := 3) sc_least_sums.nd rfl (.inl rfl)) (pgs_cons (pg_name (i := 4) sc_least_sums.nd rfl (.inl rfl)) pgs_nil)))) (fun _ _ _ _ _ => pts_one (pt_cmpR op_eq (pv 4) (pv 2) (nomark _))) (fun _ _ _ _ _ => (pv 3)))))))), ?_⟩
    refine ⟨_, rfl, .ref t, pl, ts, rfl, hd, fine, fun H1 L S1 nL hL => ?_⟩
    refine ⟨_, rfl, L, _, rfl, SqT.of hL, pl0, fun m hm hle => ?_⟩
    have em := mnG_is hm hle
    subst em
    refine ⟨_, rfl, t, _, 0, .ref a, rfl, rfl, SqT.of (S1 _ _ ht), atI_nat (j := 0) rfl, _, rfl, a, L, _, _, rfl, .inr ⟨(ha.same S1).sq, SqT.of hL, fun D nD => ?_⟩⟩
    refine zip_it (xs := (pl.map S).map V.str) (ys := (pl.map (sumOf pl ts)).map V.int) (by simp) (fun i H' => Same H1 H' ∧ H' D = some (.lst ((((pl.take i).filter fun x => sumOf pl ts x == leastN pl ts).map S).map V.str))) ⟨same_new (Same.refl H1) nD, upd_same⟩ (fun i H' hP => ⟨(ha.same (S1.trans hP.1)).sq, SqT.of (hP.1 _ _ hL)⟩) (fun i x y H' T hx hy hP nT => ?_) (fun H' hP => ?_)
    · obtain ⟨SM, hD⟩ := hP
      obtain ⟨l, ex, hl, rfl, et⟩ := at_name hx
      rw [List.getElem?_map, List.getElem?_map, ex] at hy
      cases hy
      have et := take_snoc_filter (f := sumOf pl ts) (n := leastN pl ts) et
      have DT : D ≠ T := ne_of_none hD nT
      have hD2 : (upd H' T (.tup [.str (S l), .int (sumOf pl ts l)])) D = some (.lst ((((pl.take i).filter fun x => sumOf pl ts x == leastN pl ts).map S).map V.str)) := by
        rw [upd_ne DT]
        exact hD
      refine ⟨T, _, rfl, SqT.of upd_same, rfl, _, _, rfl, _, _, rfl, rfl, rfl, _, rfl, _, rfl, rfl, _, rfl, ?_⟩
      refine ite2 (fun z => ?_) (fun z => ?_)
      · have z : sumOf pl ts l = leastN pl ts := V.int.inj (of_decide_eq_true z)
        rw [if_pos z] at et
        refine ⟨_, rfl, _, hD2, ?_, same_put (same_new SM nT) nD, ?_⟩
        · rw [List.length_map, List.length_map]
          refine sz_lt ?_
          have := List.length_filter_le (fun x => sumOf pl ts x == leastN pl ts) (pl.take i)
          rw [List.length_take] at this
          omega
        · rw [upd_same, et, List.map_append, List.map_append]
          rfl
      · have z : sumOf pl ts l ≠ leastN pl ts := fun y => z (by rw [show mnG (pl.map (sumOf pl ts)) = leastN pl ts from rfl, y]; exact decide_eq_true rfl)
        rw [if_neg z, List.append_nil] at et
        exact ⟨same_new SM nT, by rw [et]; exact hD2⟩
    · obtain ⟨SM, hD⟩ := hP
      rw [List.length_map, List.length_map, List.take_length] at hD
      refine .inl ⟨D, _, rfl, SqL.of hD, fun q1 nq1 => ?_⟩
      exact q _ _ (same_new (S1.trans SM) nq1) (.tup upd_same (dts_S _ _))
theorem ok_total {f : Addr} {fd : FuncData} (F : Fun K "total_of" "total_of" s_total_of f fd) (T : TxtM15 mg) (Cpairs_in_order : Cal P w K mg base 4 "pairs_in_order" spPio) : FnOk P w K mg base CX0 5 f fd ["tree"] spTotal := by
  refine F.ok sc_total_of (fun vs H Q E h => ?_) (fun cdv A outer s H vs Q E hr h => ?_)
  · obtain ⟨v, pl, ts, rfl, _⟩ := h
    rfl
  · obtain ⟨v, pl, ts, rfl, hd, fine, q⟩ := h
    have p1000 := fine.len
    have pl1 : (pairsOf pl ts).length ≤ 1000 * 1000 := Nat.le_trans (prs_len pl ts _) (Nat.mul_le_mul p1000 p1000)
    refine ⟨_, (pss_one (ps_ret (pe_callB (cr_sum rfl) (by rfl) T.sum bt_sum (pa_cons (pe_lc (own := [("pair", 1)]) (g := gName 1) (tt := tYes) rfl sc_total_of.nd (pi_list (pe_c Cpairs_in_order hr (by decide) rfl (pa_cons (pv 0) pa_nil))) (blkOk_by (N := N_total_of) (sc := defScope s_total_of) (by decide +kernel)) (fun _ _ _ _ _ => pg_name (i := 1) sc_total_of.nd rfl (Or.inl rfl)) (fun _ _ _ _ _ => pts_nil) (fun _ _ _ _ _ => (pe_ix (ixt (K := K)) (pv 1) pe_int (fun _ _ => rfl)))) pa_nil)))), ?_⟩
    refine ⟨_, rfl, v, pl, ts, rfl, hd, fine, fun H1 D ws S1 nD hD hW => ?_⟩
    have wl := DtAll.len hW
    rw [List.length_map] at wl
    refine ⟨D, rfl, ⟨_, SqL.of hD⟩, fun C nC => ?_⟩
    refine lc_list (K := K) (a := D) (xs := ws) (fun i H' => Same H1 H' ∧ H' C = some (.lst ((((pairsOf pl ts).take i).map (·.1)).map V.int))) ⟨same_new (Same.refl H1) nC, upd_same⟩ (fun i H' _ hP => SqL.of (hP.1 _ _ hD)) (fun i v H' hi hP => ?_) (fun H' hP => ?_)
    · obtain ⟨sm, hC⟩ := hP
      obtain ⟨d, hd, hx⟩ := DtAll.get hW hi
      rw [List.getElem?_map] at hd
      cases ee : (pairsOf pl ts)[i]? with
      | none => rw [ee] at hd; cases hd
      | some x =>
        rw [ee] at hd
        have ed : d = triD x := (Option.some.inj hd).symm
        subst ed
        obtain ⟨u2, rfl, hu2⟩ := dt_tri hx
        refine ⟨rfl, _, rfl, u2, _, 0, .int x.1, rfl, rfl, SqT.of (sm _ _ hu2), rfl, _, hC, ?_, same_put sm nC, ?_⟩
        · rw [List.length_map, List.length_map, List.length_take]
          exact szM (by omega)
        · rw [upd_same, List.take_add_one, ee, List.map_append, List.map_append]
          rfl
    · obtain ⟨sm, hC⟩ := hP
      rw [wl, List.take_length] at hC
      refine ⟨C, _, rfl, SqL.of hC, ?_⟩
      exact q _ (S1.trans sm)
end
end Far

namespace Far
open PySem PySem.Spec PyProof.Rows L2
open C8 (pss_cut tCut)
open SX (S)
structure TxtM16 (mg : Str → Option Value) : Prop where
  isinstance : mg "isinstance" = none
  dict : mg "dict" = none
  list : mg "list" = none
  bool : mg "bool" = none
  int : mg "int" = none
  len : mg "len" = none
  sorted : mg "sorted" = none
  enumerate : mg "enumerate" = none
noncomputable def lensOf (pl : List Nm) (ts : List Tie) : List Int := (pairsOf pl ts).map (·.1)
theorem lens_len {pl : List Nm} {ts : List Tie} (F : Fine pl ts) : (lensOf pl ts).length ≤ 1000000 := by
  unfold lensOf
  rw [List.length_map]
  exact Nat.le_trans (prs_len pl ts _) (Nat.mul_le_mul F.len F.len)
theorem countV_int (ls : List Int) (n : Int) : (ls.map V.int).countP (fun z => eqV z (.int n)) = ls.countP fun z => z == n := by
  rw [List.countP_map]
  rfl
theorem flat_ints (ls : List Int) : (ls.map V.int).all flatV = true := by
  rw [List.all_eq_true]
  intro v hv
  obtain ⟨n, _, rfl⟩ := List.mem_map.mp hv
  rfl
theorem at_int {ls : List Int} {i : Nat} {v : V} (hi : (ls.map V.int)[i]? = some v) : ∃ n, ls[i]? = some n ∧ v = .int n ∧ ls.take (i + 1) = ls.take i ++ [n] := by
  rw [List.getElem?_map] at hi
  cases el : ls[i]? with
  | none => rw [el] at hi; cases hi
  | some x => rw [el] at hi; exact ⟨x, rfl, (Option.some.inj hi).symm, by rw [List.take_add_one, el]; rfl⟩
abbrev s_pairs_by_length : Stmt := topS 16
abbrev N_pairs_by_length : List Str := ["tree", "told", "length", "pair"]
theorem sc_pairs_by_length : FnScope N_pairs_by_length ["tree"] (defScope s_pairs_by_length) := ⟨rfl, rfl, rfl, by decide +kernel, rfl, by decide +kernel, by decide +kernel⟩
section
variable {P : Program} {w : World} {K : PySem.W.Frag} {mg : Str → Option Value} {base : Heap}
/-- a new dict at D: how many of each of the lengths, rising -/
def spByLen : Sp := fun vs H Q _ => ∃ (v : V) (pl : List Nm) (ts : List Tie), vs = [v] ∧ Dt H v (treeD pl ts) ∧ Fine pl ts ∧ ∀ (H' : Hp) (D : Addr) (s : List Int), Same H H' → H D = none → s.Perm (lensOf pl ts) → s.Pairwise (· ≤ ·) → H' D = some (.dK (ikm (dd s) (cntF s))) → Q (.ref D) H'
theorem ok_by_len {f : Addr} {fd : FuncData} (F : Fun K "pairs_by_length" "pairs_by_length" s_pairs_by_length f fd) (T : TxtM16 mg) (Cpairs_in_order : Cal P w K mg base 4 "pairs_in_order" spPio) : FnOk P w K mg base CX0 5 f fd ["tree"] spByLen := by
  refine F.ok sc_pairs_by_length (fun vs H Q E h => ?_) (fun cdv A outer s H vs Q E hr h => ?_)
  · obtain ⟨v, pl, ts, rfl, _⟩ := h
    rfl
  · obtain ⟨v, pl, ts, rfl, hd, fine, q⟩ := h
    have ll := lens_len fine
    refine ⟨_, (pss_cons (ps_set (i := 1) sc_pairs_by_length.nd rfl (.inl rfl) pe_dnewK)
      (pss_cut (ps_for PassesOwn.never rfl (pi_list (pe_callB cr_sortedI (by rfl) T.sorted bt_sorted (pa_cons (pe_lc (own := [("pair", 3)]) (g := gName 3) (tt := tYes) rfl sc_pairs_by_length.nd (pi_list (pe_c Cpairs_in_order hr (by decide) rfl (pa_cons (pv 0) pa_nil))) (blkOk_by (N := N_pairs_by_length) (sc := defScope s_pairs_by_length) (by decide +kernel)) (fun _ _ _ _ _ => pg_name (i := 3) sc_pairs_by_length.nd rfl (Or.inl rfl)) (fun _ _ _ _ _ => pts_nil) (fun _ _ _ _ _ => (pe_ix (ixt (K := K)) (pv 3) pe_int (fun _ _ => rfl)))) pa_nil))) (pg_name (i := 2) sc_pairs_by_length.nd rfl (.inl rfl))
        (pss_one (ps_dput (hu_of hr) (pv 1) (pv 2) (pe_op op_add (pe_dget2 (hu_of hr) (pv 1) (pv 2) pe_int ⟨rfl, rfl, rfl, rfl⟩) pe_int) rfl)))
      (pss_one (ps_ret (pv 1))))), ?_⟩
    refine fun B nB => ?_
    have S0 := same_new (o := .dK []) (Same.refl H) nB
    have hB0 : (upd H B (.dK [])) B = some (.dK (ikm (dd []) (cntF []))) := upd_same
    generalize upd H B (.dK []) = H0 at S0 hB0
    refine ⟨fun σ' H' => ∃ (x2 : Option V) (s : List Int), σ' = [some v, some (.ref B), x2, none] ∧ Same H H' ∧ s.Perm (lensOf pl ts) ∧ s.Pairwise (· ≤ ·) ∧ H' B = some (.dK (ikm (dd s) (cntF s))), ?_, fun σ' H' hM => ?_⟩
    · refine ⟨_, rfl, v, pl, ts, rfl, Dt.keep (TK.of S0) hd, fine, fun H1 D ws S1 nD hD hW => ?_⟩
      have wl := DtAll.len hW
      rw [List.length_map] at wl
      have hB1 := S1 _ _ hB0
      refine ⟨D, rfl, ⟨_, SqL.of hD⟩, fun C nC => ?_⟩
      refine lc_list (K := K) (a := D) (xs := ws) (fun i H' => Same H1 H' ∧ H' C = some (.lst (((lensOf pl ts).take i).map V.int))) ⟨same_new (Same.refl H1) nC, upd_same⟩ (fun i H' _ hP => SqL.of (hP.1 _ _ hD)) (fun i v H' hi hP => ?_) (fun H' hP => ?_)
      · obtain ⟨sm, hC⟩ := hP
        obtain ⟨d, hd, hx⟩ := DtAll.get hW hi
        rw [List.getElem?_map] at hd
        cases ee : (pairsOf pl ts)[i]? with
        | none => rw [ee] at hd; cases hd
        | some x =>
          rw [ee] at hd
          have ed : d = triD x := (Option.some.inj hd).symm
          subst ed
          obtain ⟨u2, rfl, hu2⟩ := dt_tri hx
          have el : (lensOf pl ts)[i]? = some x.1 := by
            unfold lensOf
            rw [List.getElem?_map, ee]
            rfl
          refine ⟨rfl, _, rfl, u2, _, 0, .int x.1, rfl, rfl, SqT.of (sm _ _ hu2), rfl, _, hC, ?_, same_put sm nC, ?_⟩
          · rw [List.length_map, List.length_take]
            exact szM (by omega)
          · rw [upd_same, List.take_add_one, el, List.map_append]
            rfl
      · obtain ⟨sm, hC⟩ := hP
        have e1 : ws.length = (lensOf pl ts).length := by
          unfold lensOf
          rw [List.length_map, wl]
        rw [e1, List.take_length] at hC
        refine ⟨C, _, rfl, SqL.of hC, fun s p perm rise np => ?_⟩
        have S3 := same_new (o := .lst (s.map V.int)) ((S0.trans S1).trans sm) np
        have hB2 := sm _ _ hB1
        have hB3 : (upd H' p (.lst (s.map V.int))) B = some (.dK (ikm (dd []) (cntF []))) := by
          rw [upd_ne (ne_of_none hB2 np)]
          exact hB2
        have hp3 : (upd H' p (.lst (s.map V.int))) p = some (.lst (s.map V.int)) := upd_same
        have pB : p ≠ B := (ne_of_none hB2 np).symm
        generalize upd H' p (.lst (s.map V.int)) = H3 at S3 hB3 hp3
        have sl : s.length = (lensOf pl ts).length := perm.length_eq
        have pv : ∀ t : List Int, (t.take s.length) = t.take s.length := fun _ => rfl
        refine ⟨p, rfl, ⟨_, SqL.of hp3⟩, for_list (K := K) (a := p) (xs := s.map V.int) (fun i σ' H' => ∃ (x2 : Option V), σ' = [some v, some (.ref B), x2, none] ∧ Same H H' ∧ H' p = some (.lst (s.map V.int)) ∧ H' B = some (.dK (ikm (dd (s.take i)) (cntF (s.take i))))) ⟨none, rfl, S3, hp3, hB3⟩ (fun i σ' H' _ hP => by obtain ⟨_, _, _, h, _⟩ := hP; exact SqL.of h) (fun i v' σ' H' hi hP => ?_) (fun σ' H' hP => ?_)⟩
        · obtain ⟨x2, rfl, SM, hp, hB⟩ := hP
          obtain ⟨m, em, rfl, et⟩ := at_int hi
          have il : i < s.length := (List.getElem?_eq_some_iff.mp em).1
          have ev : (valV (ikm (dd (s.take i)) (cntF (s.take i))) (Sum.inl m)).getD (V.int 0) = .int (((s.take i).countP fun z => z == m : Nat) : Int) := by
            rw [ikm_val]
            by_cases c : m ∈ dd (s.take i)
            · rw [if_pos c]
              rfl
            · rw [if_neg c, cnt_none c]
              rfl
          refine ⟨_, rfl, B, rfl, .inl ⟨_, .inl hB⟩, _, rfl, _, DGet.k (k := Sum.inl m) hB, _, _, ev, rfl, _, rfl, _, rfl, B, _, rfl, .inl ⟨_, Sum.inl m, hB, rfl, ?_, rfl⟩, ?_⟩
          · rw [ikm_len]
            have := dd_len (s.take i)
            rw [List.length_take] at this
            exact szM (by omega)
          · rw [cnt_step, ← et]
            refine ⟨_, rfl, same_put SM nB, ?_, upd_same⟩
            rw [upd_ne pB]
            exact hp
        · obtain ⟨x2, rfl, SM, hp, hB⟩ := hP
          rw [List.length_map, List.take_length] at hB
          exact ⟨x2, s, rfl, SM, perm, rise, hB⟩
    · obtain ⟨x2, s, rfl, SM, perm, rise, hB⟩ := hM
      exact ⟨_, rfl, q _ B s SM nB perm rise hB⟩
end
end Far

namespace Far
open PySem PySem.Spec PyProof.Rows L2
open C8 (pss_cut tCut)
open SX (S)
structure TxtM09 (mg : Str → Option Value) : Prop where
  len : mg "len" = none
  max : mg "max" = none
  range : mg "range" = none
/-- how many are n, how many are greater -/
def cntD (ls : List Int) (n : Int) : PyData := .tuple [.int ((ls.countP fun z => z == n : Nat) : Int), .int ((ls.filter fun z => decide (z > n)).length : Nat)]
theorem eqV_int (a b : Int) : eqV (.int a) (.int b) = (a == b) := rfl
theorem filt_snoc {ls : List Int} {p : Int → Bool} {i : Nat} {x : Int} (h : ls.take (i + 1) = ls.take i ++ [x]) : (ls.take (i + 1)).filter p = (ls.take i).filter p ++ (if p x = true then [x] else []) := by
  rw [h, List.filter_append]
  by_cases c : p x = true
  · rw [if_pos c, List.filter_cons, if_pos c]
    rfl
  · rw [if_neg c, List.filter_cons, if_neg c]
    rfl
abbrev s_count_so_far : Stmt := topS 10
abbrev N_count_so_far : List Str := ["tree", "length", "lengths", "pair", "found"]
theorem sc_count_so_far : FnScope N_count_so_far ["tree", "length"] (defScope s_count_so_far) := ⟨rfl, rfl, rfl, by decide +kernel, rfl, by decide +kernel, by decide +kernel⟩
section
variable {P : Program} {w : World} {K : PySem.W.Frag} {mg : Str → Option Value} {base : Heap}
def spCount : Sp := fun vs H Q _ => ∃ (v : V) (pl : List Nm) (ts : List Tie) (n : Int), vs = [v, .int n] ∧ Dt H v (treeD pl ts) ∧ Fine pl ts ∧ ∀ (H' : Hp) (r : V), Same H H' → Dt H' r (cntD (lensOf pl ts) n) → Q r H'
theorem ok_count {f : Addr} {fd : FuncData} (F : Fun K "count_so_far" "count_so_far" s_count_so_far f fd) (T : TxtM09 mg) (Cpairs_in_order : Cal P w K mg base 4 "pairs_in_order" spPio) : FnOk P w K mg base CX0 5 f fd ["tree", "length"] spCount := by
  refine F.ok sc_count_so_far (fun vs H Q E h => ?_) (fun cdv A outer s H vs Q E hr h => ?_)
  · obtain ⟨v, pl, ts, n, rfl, _⟩ := h
    rfl
  · obtain ⟨v, pl, ts, n, rfl, hd, fine, q⟩ := h
    have ll := lens_len fine
    refine ⟨_, (pss_cons (ps_setLc (i := 2) (own := [("pair", 3)]) (g := gName 3) (tt := tYes) rfl sc_count_so_far.nd rfl rfl (sw_true rfl rfl rfl (by decide +kernel)) (pi_list (pe_c Cpairs_in_order hr (by decide) rfl (pa_cons (pv 0) pa_nil))) (blkOk_by (N := N_count_so_far) (sc := defScope s_count_so_far) (by decide +kernel)) (fun _ _ _ _ _ => pg_name (i := 3) sc_count_so_far.nd rfl (Or.inl rfl)) (fun _ _ _ _ _ => pts_nil) (fun _ _ _ _ _ => (pe_ix (ixt (K := K)) (pv 3) pe_int (fun _ _ => rfl))))
      (pss_one (ps_ret (pe_tup (pa_cons (pe_bm PySem.F.plainAttrs_list PySem.F.slot_list_count PySem.F.type_list_count mt_countV (pv 2) (pa_cons (pv 1) pa_nil)) (pa_cons (pe_callB call_len_seq (by rfl) T.len bt_len (pa_cons (pe_lc (own := [("found", 4)]) (g := gName 4)  rfl sc_count_so_far.nd (pi_list (pv 2)) (blkOk_by (N := N_count_so_far) (sc := defScope s_count_so_far) (by decide +kernel)) (fun _ _ _ _ _ => pg_name (i := 4) sc_count_so_far.nd rfl (Or.inl rfl)) (fun _ _ _ _ _ => pts_one (pt_cmpR op_gt (pv 4) (pv 1) (nomark _))) (fun _ _ _ _ _ => (pv 4))) pa_nil)) pa_nil)))))), ?_⟩
    refine ⟨_, rfl, v, pl, ts, rfl, hd, fine, fun H1 D ws S1 nD hD hW => ?_⟩
    have wl := DtAll.len hW
    rw [List.length_map] at wl
    refine ⟨D, rfl, ⟨_, SqL.of hD⟩, fun C nC => ?_⟩
    refine lc_list (K := K) (a := D) (xs := ws) (fun i H' => Same H1 H' ∧ H' C = some (.lst (((lensOf pl ts).take i).map V.int))) ⟨same_new (Same.refl H1) nC, upd_same⟩ (fun i H' _ hP => SqL.of (hP.1 _ _ hD)) (fun i v H' hi hP => ?_) (fun H' hP => ?_)
    · obtain ⟨sm, hC⟩ := hP
      obtain ⟨d, hd, hx⟩ := DtAll.get hW hi
      rw [List.getElem?_map] at hd
      cases ee : (pairsOf pl ts)[i]? with
      | none => rw [ee] at hd; cases hd
      | some x =>
        rw [ee] at hd
        have ed : d = triD x := (Option.some.inj hd).symm
        subst ed
        obtain ⟨u2, rfl, hu2⟩ := dt_tri hx
        have el : (lensOf pl ts)[i]? = some x.1 := by
          unfold lensOf
          rw [List.getElem?_map, ee]
          rfl
        refine ⟨rfl, _, rfl, u2, _, 0, .int x.1, rfl, rfl, SqT.of (sm _ _ hu2), rfl, _, hC, ?_, same_put sm nC, ?_⟩
        · rw [List.length_map, List.length_take]
          exact szM (by omega)
        · rw [upd_same, List.take_add_one, el, List.map_append]
          rfl
    · obtain ⟨sm, hC⟩ := hP
      have e1 : ws.length = (lensOf pl ts).length := by
        unfold lensOf
        rw [List.length_map, wl]
      rw [e1, List.take_length] at hC
      have S2 := S1.trans sm
      refine ⟨_, rfl, .inl ⟨rfl, _, SqL.of hC⟩, _, rfl, C, _, .int n, rfl, rfl, SqL.of hC, rfl, flat_ints _, ?_⟩
      refine ⟨_, rfl, C, rfl, ⟨_, SqL.of hC⟩, fun B nB => ?_⟩
      refine lc_list (K := K) (a := C) (xs := (lensOf pl ts).map V.int) (fun i H'' => Same H' H'' ∧ H'' B = some (.lst ((((lensOf pl ts).take i).filter fun z => decide (z > n)).map V.int))) ⟨same_new (Same.refl H') nB, upd_same⟩ (fun i H'' _ hP => SqL.of (hP.1 _ _ hC)) (fun i v H'' hi hP => ?_) (fun H'' hP => ?_)
      · obtain ⟨sm2, hB⟩ := hP
        obtain ⟨m, em, rfl, et⟩ := at_int hi
        have et := filt_snoc (p := fun z => decide (z > n)) et
        refine ⟨rfl, _, rfl, _, rfl, _, _, rfl, rfl, _, rfl, ?_⟩
        refine ite2 (fun z => ?_) (fun z => ?_)
        · rw [if_pos z] at et
          refine ⟨_, rfl, _, hB, ?_, same_put sm2 nB, ?_⟩
          · rw [List.length_map]
            have := List.length_filter_le (fun z => decide (z > n)) ((lensOf pl ts).take i)
            rw [List.length_take] at this
            exact szM (by omega)
          · rw [upd_same, et, List.map_append]
            rfl
        · rw [if_neg z, List.append_nil] at et
          exact ⟨sm2, by rw [et]; exact hB⟩
      · obtain ⟨sm2, hB⟩ := hP
        rw [List.length_map, List.take_length] at hB
        refine ⟨B, _, rfl, .inl (SqL.of hB), ?_⟩
        refine ⟨(by show 2 ≤ sizeLine; decide), fun r nr => ?_⟩
        refine q _ _ (same_new (S2.trans sm2) nr) ?_
        rw [List.length_map, countV_int]
        exact .tup upd_same (.cons (.int _) (.cons (.int _) .nil))
end
end Far

namespace Far
open PySem PySem.Spec PyProof.Rows L2
open C8 (pss_cut tCut)
open SX (S)
/-! ### the first of the greatest, by going along -/
def topT : Tri → List Tri → Tri := List.foldl fun m y => if y.1 > m.1 then y else m
theorem topT_snoc (m : Tri) (ps : List Tri) (y : Tri) : topT m (ps ++ [y]) = if y.1 > (topT m ps).1 then y else topT m ps := by
  unfold topT
  rw [List.foldl_append]
  rfl
theorem topT_is : ∀ (ps : List Tri) (m : Tri), (topT m ps = m ∧ ∀ y ∈ ps, y.1 ≤ m.1) ∨ (m.1 < (topT m ps).1 ∧ (∃ r, ps.filter (fun x => x.1 == (topT m ps).1) = topT m ps :: r) ∧ ∀ y ∈ ps, y.1 ≤ (topT m ps).1)
  | [], m => .inl ⟨rfl, fun y hy => (by cases hy)⟩
  | y :: t, m => by
    by_cases c : y.1 > m.1
    · have e : topT m (y :: t) = topT y t := by
        show topT (if y.1 > m.1 then y else m) t = _
        rw [if_pos c]
      rw [e]
      rcases topT_is t y with ⟨h1, h2⟩ | ⟨h1, ⟨r, h2⟩, h3⟩
      · refine .inr ⟨by rw [h1]; exact c, ⟨t.filter fun x => x.1 == y.1, ?_⟩, fun z hz => ?_⟩
        · rw [h1, List.filter_cons, if_pos (by simp)]
        · rw [h1]
          rcases List.mem_cons.mp hz with q | q
          · rw [q]
            exact Int.le_refl _
          · exact h2 z q
      · refine .inr ⟨by omega, ⟨r, ?_⟩, fun z hz => ?_⟩
        · rw [List.filter_cons, if_neg (by simp; omega)]
          exact h2
        · rcases List.mem_cons.mp hz with q | q
          · rw [q]
            omega
          · exact h3 z q
    · have e : topT m (y :: t) = topT m t := by
        show topT (if y.1 > m.1 then y else m) t = _
        rw [if_neg c]
      rw [e]
      rcases topT_is t m with ⟨h1, h2⟩ | ⟨h1, ⟨r, h2⟩, h3⟩
      · refine .inl ⟨h1, fun z hz => ?_⟩
        rcases List.mem_cons.mp hz with q | q
        · rw [q]
          omega
        · exact h2 z q
      · refine .inr ⟨h1, ⟨r, ?_⟩, fun z hz => ?_⟩
        · rw [List.filter_cons, if_neg (by simp; omega)]
          exact h2
        · rcases List.mem_cons.mp hz with q | q
          · rw [q]
            omega
          · exact h3 z q
theorem IsTree.pos {pl : List Nm} {ts : List Tie} (F : IsTree pl ts) {u x : Nm} (hu : u ∈ pl) (hx : x ∈ pl) (n : u ≠ x) : 1 ≤ dist ts u x := by
  have w := F.the_way hu hx
  have k := Way.nonneg (fun e he => (F.ties e he).2.2.1) w
  obtain ⟨q, e1⟩ := w.first
  obtain ⟨q', e2⟩ := w.last
  have l2 : 2 ≤ (path ts u x).length := by
    cases q with
    | nil =>
      rw [e1] at e2
      have := congrArg List.getLast? e2
      rw [List.getLast?_append] at this
      simp at this
      exact absurd this n
    | cons a r =>
      rw [e1]
      simp
  omega
theorem prs_ne {pl : List Nm} {ts : List Tie} (nd : pl.Nodup) {x : Tri} : ∀ {n : Nat}, n ≤ pl.length → x ∈ prs pl ts n → x.2.1 ≠ x.2.2
  | 0, _, h => by cases h
  | n + 1, hn, h => by
    rw [prs_succ] at h
    rcases List.mem_append.mp h with h | h
    · exact prs_ne nd (by omega) h
    · obtain ⟨y, hy, rfl⟩ := List.mem_map.mp h
      show pl.getD n [] ≠ y
      have e : pl.getD n [] = pl[n]'(by omega) := by simp [List.getD, show n < pl.length by omega]
      rw [e]
      intro z
      obtain ⟨j, hj, ej⟩ := List.mem_iff_getElem.mp hy
      rw [List.getElem_drop, ← z] at ej
      rw [List.length_drop] at hj
      have := (List.getElem_inj nd).mp ej
      omega
theorem pairs_pos {pl : List Nm} {ts : List Tie} (F : Fine pl ts) {x : Tri} (h : x ∈ pairsOf pl ts) : 1 ≤ x.1 := by
  obtain ⟨h1, h2, h3⟩ := mem_pairs h
  rw [h3]
  exact F.tree.pos h1 h2 (prs_ne F.tree.nodup (Nat.le_refl _) h)
theorem farD_top {pl : List Nm} {ts : List Tie} (F : Fine pl ts) : farD pl ts = triD (topT (0, pl.headD [], pl.headD []) (pairsOf pl ts)) ∧ (pairsOf pl ts ≠ [] → (topT (0, pl.headD [], pl.headD []) (pairsOf pl ts)).1 = best (pairsOf pl ts)) := by
  have hp : ∀ x ∈ pairsOf pl ts, 1 ≤ x.1 := fun x hx => pairs_pos F hx
  unfold farD farOf
  generalize pairsOf pl ts = ps at hp
  rcases topT_is ps (0, pl.headD [], pl.headD []) with ⟨h1, h2⟩ | ⟨h1, ⟨r, h2⟩, h3⟩
  · cases ps with
    | nil => exact ⟨by rw [h1]; rfl, fun z => absurd rfl z⟩
    | cons x r =>
      have a := hp x (List.mem_cons_self ..)
      have b := h2 x (List.mem_cons_self ..)
      exact absurd b (by show ¬ x.1 ≤ 0; omega)
  · generalize topT (0, pl.headD [], pl.headD []) ps = m at *
    have hb : best ps = m.1 := by
      refine best_is (List.mem_map.mpr ⟨m, ?_, rfl⟩) fun y hy => ?_
      · have : m ∈ ps.filter fun x => x.1 == m.1 := by
          rw [h2]
          exact List.mem_cons_self ..
        exact (List.mem_filter.mp this).1
      · obtain ⟨z, hz, rfl⟩ := List.mem_map.mp hy
        exact h3 z hz
    rw [hb, h2]
    exact ⟨rfl, fun _ => rfl⟩
abbrev s_farthest : Stmt := topS 9
abbrev N_farthest : List Str := ["tree", "first", "told", "pair"]
theorem sc_farthest : FnScope N_farthest ["tree"] (defScope s_farthest) := ⟨rfl, rfl, rfl, by decide +kernel, rfl, by decide +kernel, by decide +kernel⟩
section
variable {P : Program} {w : World} {K : PySem.W.Frag} {mg : Str → Option Value} {base : Heap}
def spFarthest : Sp := fun vs H Q _ => ∃ (v : V) (pl : List Nm) (ts : List Tie), vs = [v] ∧ Dt H v (treeD pl ts) ∧ Fine pl ts ∧ ∀ (H' : Hp) (r : V), Same H H' → Dt H' r (farD pl ts) → Q r H'
def spAllFarthest : Sp := fun vs H Q _ => ∃ (v : V) (pl : List Nm) (ts : List Tie), vs = [v] ∧ Dt H v (treeD pl ts) ∧ Fine pl ts ∧ ∀ (H' : Hp) (r : V), Same H H' → Dt H' r (allD pl ts) → Q r H'
theorem ok_farthest {f : Addr} {fd : FuncData} (F : Fun K "farthest" "farthest" s_farthest f fd) (Cpairs_in_order : Cal P w K mg base 4 "pairs_in_order" spPio) : FnOk P w K mg base CX0 5 f fd ["tree"] spFarthest := by
  refine F.ok sc_farthest (fun vs H Q E h => ?_) (fun cdv A outer s H vs Q E hr h => ?_)
  · obtain ⟨v, pl, ts, rfl, _⟩ := h
    rfl
  · obtain ⟨v, pl, ts, rfl, hd, fine, q⟩ := h
    obtain ⟨t, a, b, vs, rfl, ht, ha, hb, hA⟩ := dt_tree hd
    refine ⟨_, (pss_cons (ps_set (i := 1) sc_farthest.nd rfl (.inl rfl) (pe_ix ix_tup (pe_ix ix_tup (pv 0) pe_int (fun _ _ => rfl)) pe_int (fun _ _ => rfl)))
      (pss_cons (ps_set (i := 2) sc_farthest.nd rfl (.inl rfl) (pe_tup (pa_cons pe_int (pa_cons (pv 1) (pa_cons (pv 1) pa_nil)))))
      (pss_cut (ps_for PassesOwn.never rfl (pi_list (pe_c Cpairs_in_order hr (by decide) rfl (pa_cons (pv 0) pa_nil))) (pg_name (i := 3) sc_farthest.nd rfl (.inl rfl))
        (pss_one (ps_if (pt_cmpR op_gt (pe_ix ix_tup (pv 3) pe_int (fun _ _ => rfl)) (pe_ix ix_tup (pv 2) pe_int (fun _ _ => rfl)) (nomark _))
          (pss_one (ps_set (i := 2) sc_farthest.nd rfl (.inl rfl) (pv 3)))
          pss_nil)))
      (pss_one (ps_ret (pv 2)))))), ?_⟩
    obtain ⟨p0, pr, epl⟩ : ∃ p0 pr, pl = p0 :: pr := by
      cases hp : pl with
      | nil => exact absurd hp fine.ne
      | cons a r => exact ⟨a, r, rfl⟩
    have g0 : ((pl.map S).map V.str)[0]? = some (.str (S p0)) := by rw [epl]; rfl
    refine ⟨_, rfl, t, _, 0, .ref a, rfl, rfl, SqT.of ht, atI_nat (j := 0) rfl, a, _, 0, _, rfl, rfl, ha.sq, atI_nat (j := 0) g0, ?_⟩
    refine ⟨_, rfl, _, rfl, (by show 3 ≤ sizeLine; decide), fun T0 nT0 => ?_⟩
    have S1 := same_new (o := .tup [.int 0, .str (S p0), .str (S p0)]) (Same.refl H) nT0
    have h0 : (upd H T0 (.tup [.int 0, .str (S p0), .str (S p0)])) T0 = some (.tup [.int 0, .str (S p0), .str (S p0)]) := upd_same
    generalize upd H T0 (.tup [.int 0, .str (S p0), .str (S p0)]) = H1 at S1 h0
    refine ⟨fun σ' H' => ∃ (r : Addr) (x3 : Option V), σ' = [some (.ref t), some (.str (S p0)), some (.ref r), x3] ∧ Same H H' ∧ Dt H' (.ref r) (triD (topT (0, pl.headD [], pl.headD []) (pairsOf pl ts))), ?_, fun σ' H' hM => ?_⟩
    · refine ⟨_, rfl, .ref t, pl, ts, rfl, Dt.keep (TK.of S1) hd, fine, fun H2 D ws S2 nD hD hW => ?_⟩
      have wl := DtAll.len hW
      rw [List.length_map] at wl
      refine ⟨D, rfl, ⟨_, SqL.of hD⟩, for_list (K := K) (a := D) (xs := ws) (fun i σ' H' => H' = H2 ∧ ∃ (r : Addr) (x3 : Option V), σ' = [some (.ref t), some (.str (S p0)), some (.ref r), x3] ∧ H2 r = some (.tup [.int (topT (0, pl.headD [], pl.headD []) ((pairsOf pl ts).take i)).1, .str (S (topT (0, pl.headD [], pl.headD []) ((pairsOf pl ts).take i)).2.1), .str (S (topT (0, pl.headD [], pl.headD []) ((pairsOf pl ts).take i)).2.2)])) ⟨rfl, T0, none, rfl, ?_⟩ (fun i σ' H' _ hP => by rw [hP.1]; exact SqL.of hD) (fun i v σ' H' hi hP => ?_) (fun σ' H' hP => ?_)⟩
      · rw [List.take_zero]
        show H2 T0 = some (.tup [.int 0, .str (S (pl.headD [])), .str (S (pl.headD []))])
        rw [epl]
        exact S2 _ _ h0
      · obtain ⟨rfl, r, x3, rfl, hr2⟩ := hP
        obtain ⟨d, hd, hx⟩ := DtAll.get hW hi
        rw [List.getElem?_map] at hd
        cases ee : (pairsOf pl ts)[i]? with
        | none => rw [ee] at hd; cases hd
        | some y =>
          rw [ee] at hd
          have ed : d = triD y := (Option.some.inj hd).symm
          subst ed
          obtain ⟨u, rfl, hu⟩ := dt_tri hx
          have et : (pairsOf pl ts).take (i + 1) = (pairsOf pl ts).take i ++ [y] := by
            rw [List.take_add_one, ee]
            rfl
          rw [et, topT_snoc]
          refine ⟨_, rfl, u, _, 0, _, rfl, rfl, SqT.of hu, atI_nat (j := 0) rfl, _, rfl, r, _, 0, _, rfl, rfl, SqT.of hr2, atI_nat (j := 0) rfl, _, _, rfl, rfl, _, rfl, ?_⟩
          refine ite2 (fun z => ?_) (fun z => ?_)
          · have z : y.1 > (topT (0, pl.headD [], pl.headD []) ((pairsOf pl ts).take i)).1 := of_decide_eq_true z
            rw [if_pos z]
            exact ⟨_, rfl, rfl, u, _, rfl, hu⟩
          · have z : ¬ y.1 > (topT (0, pl.headD [], pl.headD []) ((pairsOf pl ts).take i)).1 := fun k => z (decide_eq_true k)
            rw [if_neg z]
            exact ⟨rfl, r, _, rfl, hr2⟩
      · obtain ⟨rfl, r, x3, rfl, hr2⟩ := hP
        rw [wl, List.take_length] at hr2
        exact ⟨r, x3, rfl, S1.trans S2, .tup hr2 (.cons (.int _) (.cons (.str _) (.cons (.str _) .nil)))⟩
    · obtain ⟨r, x3, rfl, SM, hr2⟩ := hM
      refine ⟨_, rfl, q H' _ SM ?_⟩
      rw [(farD_top fine).1]
      exact hr2
end
end Far

namespace Far
open PySem PySem.Spec PyProof.Rows L2
theorem kv_vals : ∀ {kvs : List (Key × V)} {vs : List (Key × Value)}, KV kvs vs → Vals (kvs.map (·.2)) (vs.map (·.2))
  | [], [], .nil => .nil
  | _ :: _, _ :: _, .cons h t => .cons h.2 (kv_vals t)
/-- list(d.values()) -/
def tListVals (te : TE) : TE := fun σ H Q => te σ H fun x H1 => ∃ (d : Addr) (kvs : List (Key × V)), x = .ref d ∧ H1 d = some (.dK kvs) ∧ ∀ p, H1 p = none → Q (.ref p) (upd H1 p (.lst (kvs.map (·.2))))
theorem pe_listVals {X : Cx} {e : Expr} {te : TE} {p pos apos cpos : Pos} (hc : X.calm = true) (he : PE X e te) (hg : Gl X "list") (hm : X.mg "list" = none) (hv : bootBuiltins "list" = some (.type "list"))
    (hbase : attributeBase e "values" X.env (eval e X.env) = eval e X.env := by rfl) (hline : (apos.endLine == cpos.line) = true := by rfl)
    (hs : starEach [.Call (.Attribute e "values" apos) [] [] cpos] X.env = (false, eval (.Call (.Attribute e "values" apos) [] [] cpos) X.env) :: starEach [] X.env := by rfl) :
    PE X (.Call (.Name "list" p) [.Call (.Attribute e "values" apos) [] [] cpos] [] pos) (tListVals te) := by
  refine ⟨fun pins s σ H Q I hq => ?_⟩
  refine wpAny_Call_Name_kw (ld_blt I hg hm hv ?_)
  refine PyProof.Rows.callWith_type1 ?_ hs rfl
  rw [hs]
  show wpAny _ _ (spliced ((false, eval (.Call (.Attribute e "values" apos) [] [] cpos) X.env) :: backTo pos (starEach [] X.env))) _ _ s
  refine Calls.spliced_cons ?_
  refine wpAny_Call_method (T := "dict") (id := "dict.values") hbase rfl hline F.plainAttrs_dict F.slot_dict_values F.type_dict_values (thn (he.run pins s σ H _ I hq) fun u s1 ⟨x, H1, I1, rx, d, kvs, ex, hd, q⟩ => ?_)
  subst ex
  obtain rfl : u = Value.ref d := rx
  obtain ⟨hz, hs0, vs, kv, hdo⟩ := I1.hok d _ hd
  obtain ⟨ep, hat⟩ := hdo.dictAt
  have lk : kvs.length = vs.length := Paired.length kv
  have I2 : Inv X pins σ H1 { s1 with heap := s1.heap.push { cls := .type "dict_values", data := .fields #[.ref d] } } := I1.kept (t' := s1.toks) fun b ob q => Heap.get?_push_of_some _ q
  refine ⟨hdo.typeIs, hdo.mapOf.noDict, ?_⟩
  show wpAny _ _ (callWith cpos (.builtin "dict.values") [.ref d] [] []) _ X.xe s1
  refine method_meetsIn F.slot_dict_values F.entry_dict_values rfl (PySem.evalArgs_none ⟨rfl, hdo.typeIs, F.args_dict_values_1 _, _, meets_dict_values (mixKind X.prog X.w) d hs0, ⟨vs, hdo⟩, ?_⟩)
  refine Calls.spliced_nil ?_
  refine PySem.W.kdl_call (PySem.W.kdl_values (knd := mixKind X.prog X.w) (r := s1.heap.objs.size) (d := d) (kvs := vs) (ep := ep)) (I1.ok.hd hc) ⟨⟨_, Heap.get?_push_size _ rfl, rfl, rfl⟩, hat.push _⟩ (by omega) fun h' tk acc c hk hS hacc => ?_
  have ev : acc.toList = vs.map (·.2) := PySem.W.kdl_vals_eq acc.toList (by rw [Array.length_toList]; exact hacc.1) fun j v e => hacc.2 j v (by rw [← Array.getElem?_toList]; exact e)
  exact ⟨.ref _, _, I2.laid (t' := tk) hk (Nat.le_refl _) (show ObjOk X.prog X.w _ _ _ (.lst (kvs.map (·.2))) from ⟨by rw [List.length_map]; exact hz, acc.toList, c, by rw [ev]; exact kv_vals kv, by rw [Array.toArray_toList]; exact hS⟩), rfl, q _ (I2.hok.fresh (Nat.le_refl _))⟩
end Far

namespace Far
open PySem
open SX (S)
/-! ### ways cut, put together -/
theorem snoc_cons {α : Type} {p p1 p2 : List α} {w m : α} (h : p ++ [w] = p1 ++ m :: p2) : (p2 = [] ∧ p1 = p ∧ m = w) ∨ ∃ p3, p2 = p3 ++ [w] ∧ p = p1 ++ m :: p3 := by
  rcases List.eq_nil_or_concat p2 with e | ⟨p3, z, e⟩
  · subst e
    have := List.append_inj' h rfl
    exact .inl ⟨rfl, this.1.symm, by simpa using this.2.symm⟩
  · rw [e] at h ⊢
    have h' : p ++ [w] = (p1 ++ m :: p3) ++ [z] := by rw [h]; simp
    have := List.append_inj' h' rfl
    refine .inr ⟨p3, ?_, this.1⟩
    have : w = z := by simpa using this.2
    rw [this]
    simp
theorem Way.split {ts : List Tie} {u v : Nm} {p : List Nm} {L : Int} (h : Way ts u v p L) : ∀ {p1 p2 : List Nm} {m : Nm}, p = p1 ++ m :: p2 → ∃ L1 L2, Way ts u m (p1 ++ [m]) L1 ∧ Way ts m v (m :: p2) L2 ∧ L = L1 + L2 := by
  induction h with
  | nil =>
    intro p1 p2 m e
    have h1 : p1 = [] ∧ m = u ∧ p2 = [] := by
      cases p1 with
      | nil =>
        have := List.cons.inj e
        exact ⟨rfl, this.1.symm, this.2.symm⟩
      | cons a r =>
        have := congrArg List.length e
        simp at this
    obtain ⟨rfl, rfl, rfl⟩ := h1
    exact ⟨0, 0, .nil, .nil, by omega⟩
  | @snoc v w p L k h1 ha hn ih =>
    intro p1 p2 m e
    rcases snoc_cons e with ⟨rfl, rfl, rfl⟩ | ⟨p3, rfl, rfl⟩
    · exact ⟨L + k, 0, .snoc h1 ha hn, .nil, by omega⟩
    · obtain ⟨L1, L2, w1, w2, el⟩ := ih rfl
      exact ⟨L1, L2 + k, w1, .snoc w2 ha (fun z => hn (List.mem_append_right _ z)), by omega⟩
theorem Way.join {ts : List Tie} {u m v : Nm} {p1 q : List Nm} {L1 L2 : Int} (h1 : Way ts u m (p1 ++ [m]) L1) (h2 : Way ts m v q L2) (d : ∀ y ∈ q, y ∉ p1) : Way ts u v (p1 ++ q) (L1 + L2) := by
  induction h2 with
  | nil => simpa using h1
  | @snoc v w q L k h ha hn ih =>
    have := Way.snoc (ih fun y hy => d y (List.mem_append_left _ hy)) ha (w := w) (fun z => by
      rcases List.mem_append.mp z with z | z
      · exact d w (by simp) z
      · exact hn z)
    rw [List.append_assoc] at this
    rw [← Int.add_assoc]
    exact this
theorem first_in (q : List Nm) : ∀ {p : List Nm}, (∃ y ∈ p, y ∈ q) → ∃ A m B, p = A ++ m :: B ∧ m ∈ q ∧ ∀ y ∈ A, y ∉ q
  | [], h => by simp at h
  | a :: r, h => by
    by_cases e : a ∈ q
    · exact ⟨[], a, r, rfl, e, by simp⟩
    · obtain ⟨y, hy, hq⟩ := h
      rcases List.mem_cons.mp hy with z | z
      · exact absurd (z ▸ hq) e
      · obtain ⟨A, m, B, e1, e2, e3⟩ := first_in q ⟨y, z, hq⟩
        refine ⟨a :: A, m, B, by rw [e1]; rfl, e2, fun y hy => ?_⟩
        rcases List.mem_cons.mp hy with z | z
        · exact z ▸ e
        · exact e3 y z
theorem last_of {p : List Nm} {x : Nm} {A B : List Nm} {m : Nm} (h : p ++ [x] = A ++ m :: B) : (B = [] ∧ m = x) ∨ x ∈ B := by
  rcases snoc_cons h with ⟨e, _, em⟩ | ⟨p3, e, _⟩
  · exact .inl ⟨e, em⟩
  · exact .inr (by rw [e]; simp)
/-- the place where three ways meet -/
theorem IsTree.median {pl : List Nm} {ts : List Tie} (h : IsTree pl ts) {u v x : Nm} (hu : u ∈ pl) (hv : v ∈ pl) (hx : x ∈ pl) : ∃ (m : Nm) (A B C : List Nm) (d : Int), path ts u x = A ++ m :: B ∧ path ts x v = B.reverse ++ m :: C ∧ path ts u v = A ++ m :: C ∧
    (∀ y ∈ A, y ∉ path ts x v) ∧ dist ts u x + dist ts x v = dist ts u v + 2 * d ∧ 0 ≤ d ∧ (d = 0 ↔ B = []) := by
  have wp := h.the_way hu hx
  have wq := h.the_way hx hv
  obtain ⟨A, m, B, ep, mq, dA⟩ := first_in (path ts x v) ⟨x, wp.mem, by
    obtain ⟨r, e⟩ := wq.first
    rw [e]
    simp⟩
  obtain ⟨B', C, eq⟩ := List.append_of_mem mq
  obtain ⟨L1, L2, w1, w2, el⟩ := wp.split ep
  obtain ⟨L3, L4, w3, w4, el2⟩ := wq.split eq
  have wr := w2.rev
  rw [List.reverse_cons] at wr
  obtain ⟨eb, e23⟩ := h.one_way w3 wr
  have eb' : B' = B.reverse := (List.append_inj' eb rfl).1
  subst eb'
  have wj := w1.join w4 (fun y hy z => dA y z (by rw [eq]; exact List.mem_append_right _ hy))
  obtain ⟨f1, f2⟩ := h.is_way wj
  obtain ⟨n0, n1⟩ := w2.nonneg (fun e he => (h.ties e he).2.2.1)
  refine ⟨m, A, B, C, L2, ep, eq, f1, dA, by omega, n0, ?_, fun e => ?_⟩
  · intro e
    rw [List.length_cons] at n1
    exact List.eq_nil_of_length_eq_zero (by omega)
  · subst e
    obtain ⟨r, er⟩ := w2.last
    have em : x = m := by
      cases r with
      | nil => exact (List.cons.inj er).1.symm
      | cons a r =>
        have := congrArg List.length er
        simp at this
    subst em
    exact (h.one_way w2 .nil).2
/-- over a third place no way is shorter; just as long where it is on the way -/
theorem IsTree.over {pl : List Nm} {ts : List Tie} (h : IsTree pl ts) {u v x : Nm} (hu : u ∈ pl) (hv : v ∈ pl) (hx : x ∈ pl) : dist ts u v ≤ dist ts u x + dist ts x v ∧ (dist ts u x + dist ts x v = dist ts u v ↔ x ∈ path ts u v) ∧
    ∃ m, (path ts u v).filter (fun y => decide (y ∈ path ts u x) && decide (y ∈ path ts x v)) = [m] := by
  obtain ⟨m, A, B, C, d, e1, e2, e3, dA, ed, d0, db⟩ := h.median hu hv hx
  have np := (h.the_way hu hx).nodup
  have nq := (h.the_way hx hv).nodup
  obtain ⟨r, er⟩ := (h.the_way hu hx).last
  obtain ⟨t, et⟩ := (h.the_way hx hv).first
  rw [e1] at np er
  rw [e2] at nq et dA
  have qd := List.nodup_append.mp nq
  have pd := List.nodup_append.mp np
  refine ⟨by omega, ⟨fun e => ?_, fun e => ?_⟩, m, ?_⟩
  · have b0 := db.mp (by omega)
    subst b0
    rcases last_of er.symm with ⟨_, em⟩ | z
    · rw [e3, ← em]
      simp
    · cases z
  · rcases last_of er.symm with ⟨b0, _⟩ | z
    · have := db.mpr b0
      omega
    · exfalso
      rw [e3] at e
      rcases List.mem_append.mp e with q | q
      · exact pd.2.2 x q x (List.mem_cons_of_mem _ z) rfl
      · rcases List.mem_cons.mp q with q | q
        · exact (List.nodup_cons.mp pd.2.1).1 (q ▸ z)
        · have : x ∈ B.reverse := List.mem_reverse.mpr z
          exact qd.2.2 x this x (List.mem_cons_of_mem _ q) rfl
  · rw [e3, e1, e2, List.filter_append]
    have fA : A.filter (fun y => decide (y ∈ A ++ m :: B) && decide (y ∈ B.reverse ++ m :: C)) = [] := by
      refine List.filter_eq_nil_iff.mpr fun y hy => ?_
      simp only [Bool.and_eq_true, decide_eq_true_eq, not_and]
      exact fun _ => dA y hy
    have fC : C.filter (fun y => decide (y ∈ A ++ m :: B) && decide (y ∈ B.reverse ++ m :: C)) = [] := by
      refine List.filter_eq_nil_iff.mpr fun y hy => ?_
      simp only [Bool.and_eq_true, decide_eq_true_eq, not_and]
      intro z _
      rcases List.mem_append.mp z with z | z
      · exact dA y z (List.mem_append_right _ (List.mem_cons_of_mem _ hy))
      · rcases List.mem_cons.mp z with z | z
        · exact (List.nodup_cons.mp qd.2.1).1 (z ▸ hy)
        · exact qd.2.2 y (List.mem_reverse.mpr z) y (List.mem_cons_of_mem _ hy) rfl
    rw [fA, List.filter_cons, if_pos (by simp), fC]
    rfl
/-- two beside one another -/
theorem Way.two {ts : List Tie} {u v : Nm} {k : Int} (h : Adj ts u v k) (ne : v ≠ u) : Way ts u v [u, v] k := by
  have := Way.snoc (ts := ts) (u := u) .nil h (by simpa using ne)
  simpa using this
theorem Grown.adj_ne {os : List Nm} {es : List Tie} (g : Grown os es) : ∀ {u v : Nm} {k : Int}, Adj es u v k → v ≠ u := by
  induction g with
  | one a =>
    intro u v k h
    rcases h with h | h <;> cases h
  | @leaf os es a b k0 e0 g ha hbn he k1 k2 ih =>
    intro u v k h
    have hb : ∀ e ∈ es, e.1 ≠ b ∧ e.2.1 ≠ b := fun e hm => by
      obtain ⟨i1, i2, _⟩ := g.ties e hm
      exact ⟨fun z => hbn (z ▸ i1), fun z => hbn (z ▸ i2)⟩
    have ab : a ≠ b := fun z => hbn (z ▸ ha)
    rcases adj_new hb ab he h with ⟨h, _, _⟩ | ⟨e1, e2, _⟩ | ⟨e1, e2, _⟩
    · exact ih h
    · rw [e1, e2]
      exact Ne.symm ab
    · rw [e1, e2]
      exact ab
theorem IsTree.adj_ne {pl : List Nm} {ts : List Tie} (h : IsTree pl ts) {u v : Nm} {k : Int} (a : Adj ts u v k) : v ≠ u := by
  obtain ⟨os, es, g, _, p2⟩ := h
  exact g.adj_ne (a.perm p2)
theorem IsTree.adj_one {pl : List Nm} {ts : List Tie} (h : IsTree pl ts) {u v : Nm} {k l : Int} (a : Adj ts u v k) (b : Adj ts u v l) : k = l := (h.one_way (Way.two a (h.adj_ne a)) (Way.two b (h.adj_ne b))).2
/-- the ties of a way -/
theorem Way.hops {ts : List Tie} {u v : Nm} {p : List Nm} {L : Int} (h : Way ts u v p L) : ∃ ks : List Int, ks.length + 1 = p.length ∧ ks.sum = L ∧ ∀ (i : Nat) (x y : Nm), p[i]? = some x → p[i + 1]? = some y → ∃ k, ks[i]? = some k ∧ Adj ts x y k := by
  induction h with
  | nil => exact ⟨[], rfl, rfl, fun i x y _ e => by simp at e⟩
  | @snoc v w p L k h ha hn ih =>
    obtain ⟨ks, e1, e2, e3⟩ := ih
    refine ⟨ks ++ [k], by simp [e1], by simp [e2], fun i x y ex ey => ?_⟩
    by_cases lt : i + 1 < p.length
    · rw [List.getElem?_append_left (by omega)] at ex
      rw [List.getElem?_append_left lt] at ey
      obtain ⟨k', f1, f2⟩ := e3 i x y ex ey
      exact ⟨k', by rw [List.getElem?_append_left (by omega)]; exact f1, f2⟩
    · have ei : i + 1 = p.length := by
        have := (List.getElem?_eq_some_iff.mp ey).1
        simp at this
        omega
      rw [List.getElem?_append_left (by omega)] at ex
      rw [ei, List.getElem?_append_right (by omega)] at ey
      simp at ey
      obtain ⟨q, eq⟩ := h.last
      rw [eq] at ex ei
      rw [List.length_append, List.length_singleton] at ei
      have ei' : i = q.length := by omega
      rw [ei', List.getElem?_append_right (by omega)] at ex
      simp at ex
      rw [← ex, ← ey]
      refine ⟨k, ?_, ha⟩
      have : ks.length = i := by
        rw [eq, List.length_append, List.length_singleton] at e1
        omega
      rw [← this]
      simp
end Far

namespace Far
open PySem PySem.Spec PyProof.Rows L2
open SX (S)
/-! ### the two sides of a tie -/
section
variable {pl : List Nm} {ts : List Tie} {a b : Nm} {k : Int}
theorem tie_two (h : IsTree pl ts) (ad : Adj ts a b k) : path ts a b = [a, b] ∧ dist ts a b = k := h.is_way (Way.two ad (h.adj_ne ad))
theorem adj_in (h : IsTree pl ts) (ad : Adj ts a b k) : a ∈ pl ∧ b ∈ pl ∧ 1 ≤ k := by
  rcases ad with z | z
  · exact ⟨(h.ties _ z).1, (h.ties _ z).2.1, (h.ties _ z).2.2.1⟩
  · exact ⟨(h.ties _ z).2.1, (h.ties _ z).1, (h.ties _ z).2.2.1⟩
theorem side (h : IsTree pl ts) (ad : Adj ts a b k) {p : Nm} (hp : p ∈ pl) : dist ts b p = dist ts a p + k ∨ dist ts a p = dist ts b p + k := by
  obtain ⟨ha, hb, _⟩ := adj_in h ad
  obtain ⟨pab, dab⟩ := tie_two h ad
  obtain ⟨m, A, B, C, d, e1, e2, e3, _⟩ := h.median ha hb hp
  rw [pab] at e3
  cases A with
  | nil =>
    have em : a = m := (List.cons.inj e3).1
    subst em
    have := (h.over hp hb ha).2.1.mpr (by rw [e2]; simp)
    rw [(h.dist_symm hp ha).1, (h.dist_symm hp hb).1] at this
    exact .inl (by omega)
  | cons x A =>
    have e4 := (List.cons.inj e3).2
    cases A with
    | nil =>
      have em : b = m := (List.cons.inj e4).1
      subst em
      have := (h.over ha hp hb).2.1.mpr (by rw [e1]; simp)
      exact .inr (by omega)
    | cons y A =>
      have := congrArg List.length e4
      simp at this
theorem cross1 (h : IsTree pl ts) (ad : Adj ts a b k) {u v : Nm} (hu : u ∈ pl) (hv : v ∈ pl) {A C : List Nm} (e : path ts u v = A ++ a :: b :: C) : dist ts b u = dist ts a u + k ∧ dist ts a v = dist ts b v + k := by
  obtain ⟨ha, hb, k1⟩ := adj_in h ad
  obtain ⟨pab, dab⟩ := tie_two h ad
  have w := h.the_way hu hv
  obtain ⟨L1, L2, _, w2, _⟩ := w.split e
  obtain ⟨L3, L4, w3, _, _⟩ := w.split (p1 := A ++ [a]) (p2 := C) (m := b) (by rw [e]; simp)
  have p3 := (h.is_way w3).1
  have p2 := (h.is_way w2).1
  have o1 := (h.over hu hb ha).2.1.mpr (by rw [p3]; simp)
  have o2 := (h.over ha hv hb).2.1.mpr (by rw [p2]; simp)
  rw [(h.dist_symm hu ha).1, (h.dist_symm hu hb).1] at o1
  exact ⟨by omega, by omega⟩
theorem cross2 (h : IsTree pl ts) (ad : Adj ts a b k) {u v : Nm} (hu : u ∈ pl) (hv : v ∈ pl) (h1 : dist ts b u = dist ts a u + k) (h2 : dist ts a v = dist ts b v + k) : ∃ A C, path ts u v = A ++ a :: b :: C := by
  obtain ⟨ha, hb, k1⟩ := adj_in h ad
  obtain ⟨pab, dab⟩ := tie_two h ad
  have wa := h.the_way hu ha
  have wb := h.the_way hb hv
  have dis : ∀ y ∈ path ts b v, y ∉ path ts u a := fun y hy hy2 => by
    have yp := wb.inside (fun e he => ⟨(h.ties e he).1, (h.ties e he).2.1⟩) hb y hy
    have o1 := (h.over hu ha yp).2.1.mpr hy2
    have o2 := (h.over hb hv yp).2.1.mpr hy
    have t1 := (h.over hu hb yp).1
    have t2 := (h.over ha hv yp).1
    have s1 := (h.dist_symm hu ha).1
    have s2 := (h.dist_symm hu hb).1
    have s3 := (h.dist_symm ha yp).1
    have s4 := (h.dist_symm hb yp).1
    omega
  have nb : b ∉ path ts u a := dis b (by
    obtain ⟨q, e⟩ := wb.first
    rw [e]
    exact List.mem_cons_self)
  have w1 : Way ts u b (path ts u a ++ [b]) (dist ts u a + k) := .snoc wa ad nb
  have w2 := w1.join wb dis
  have e := (h.is_way w2).1
  obtain ⟨q1, e1⟩ := wa.last
  obtain ⟨q2, e2⟩ := wb.first
  exact ⟨q1, q2, by rw [e, e1, e2]; simp⟩
theorem nb_iff {p : List Nm} {x y : Nm} : (∃ i : Nat, p[i]? = some x ∧ p[i + 1]? = some y) ↔ ∃ A C, p = A ++ x :: y :: C := by
  constructor
  · rintro ⟨i, h1, h2⟩
    obtain ⟨l1, e1⟩ := List.getElem?_eq_some_iff.mp h1
    obtain ⟨l2, e2⟩ := List.getElem?_eq_some_iff.mp h2
    refine ⟨p.take i, p.drop (i + 2), ?_⟩
    conv => lhs; rw [← List.take_append_drop i p, List.drop_eq_getElem_cons l1, List.drop_eq_getElem_cons l2, e1, e2]
  · rintro ⟨A, C, rfl⟩
    exact ⟨A.length, by simp, by simp⟩
/-- on the side of a -/
def onA (ts : List Tie) (a b x : Nm) : Prop := dist ts a x < dist ts b x
theorem onA_iff (h : IsTree pl ts) (ad : Adj ts a b k) {p : Nm} (hp : p ∈ pl) : (dist ts a p < dist ts b p ↔ dist ts b p = dist ts a p + k) ∧ (¬ dist ts a p < dist ts b p ↔ dist ts a p = dist ts b p + k) := by
  have k1 := (adj_in h ad).2.2
  rcases side h ad hp with z | z
  · exact ⟨⟨fun _ => z, fun _ => by omega⟩, ⟨fun y => absurd (by omega) y, fun y => by omega⟩⟩
  · exact ⟨⟨fun y => absurd y (by omega), fun y => by omega⟩, ⟨fun _ => z, fun _ => by omega⟩⟩
/-- places nearer to a than to b -/
noncomputable def sidN (ts : List Tie) (a b : Nm) (l : List Nm) : Nat := (l.filter fun x => decide (dist ts a x < dist ts b x)).length
theorem sidN_cons (ts : List Tie) (a b x : Nm) (r : List Nm) : sidN ts a b (x :: r) = (if dist ts a x < dist ts b x then 1 else 0) + sidN ts a b r := by
  unfold sidN
  rw [List.filter_cons]
  by_cases c : dist ts a x < dist ts b x
  · rw [if_pos (decide_eq_true c), if_pos c, List.length_cons]
    omega
  · rw [if_neg (fun z => c (of_decide_eq_true z)), if_neg c]
    omega
theorem sidN_le (ts : List Tie) (a b : Nm) (l : List Nm) : sidN ts a b l ≤ l.length := List.length_filter_le _ _
theorem sum_side (h : IsTree pl ts) (ad : Adj ts a b k) : ∀ {l : List Nm}, (∀ x ∈ l, x ∈ pl) → (l.map fun x => dist ts a x).sum - (l.map fun x => dist ts b x).sum = k * ((l.length : Int) - 2 * (sidN ts a b l : Int))
  | [], _ => by simp [sidN]
  | x :: r, hl => by
    have ih := sum_side h ad (l := r) fun y hy => hl y (List.mem_cons_of_mem _ hy)
    obtain ⟨i1, i2⟩ := onA_iff h ad (hl x List.mem_cons_self)
    rw [sidN_cons, List.map_cons, List.map_cons, List.sum_cons, List.sum_cons, List.length_cons]
    by_cases c : dist ts a x < dist ts b x
    · have e := i1.mp c
      rw [if_pos c, e]
      grind
    · have e := i2.mp c
      rw [if_neg c, e]
      grind
theorem sums_differ (h : IsTree pl ts) (ad : Adj ts a b k) : sumOf pl ts a - sumOf pl ts b = k * ((pl.length : Int) - 2 * (sidN ts a b pl : Int)) := sum_side h ad fun _ hx => hx
end
end Far

namespace Far
open PySem PySem.Spec PyProof.Rows L2
open SX (S)
theorem Grown.other {os : List Nm} {es : List Tie} (g : Grown os es) : ∀ {s1 s2 : List Tie} {a b : Nm} {k k' : Int}, es = s1 ++ (a, b, k) :: s2 → 1 ≤ k' → k' ≤ 1000000 → Grown os (s1 ++ (a, b, k') :: s2) := by
  induction g with
  | one a =>
    intro s1 s2 a b k k' e
    have := congrArg List.length e
    simp at this
  | @leaf os es a0 b0 k0 e0 g ha hbn he k1 k2 ih =>
    intro s1 s2 a b k k' e h1 h2
    rcases snoc_cons e with ⟨rfl, rfl, e2⟩ | ⟨p3, rfl, rfl⟩
    · refine .leaf (e := (a, b, k')) (k := k') g ha hbn ?_ h1 h2
      rcases he with he | he <;> rw [he] at e2 <;> cases e2
      · exact .inl rfl
      · exact .inr rfl
    · have := Grown.leaf (ih rfl h1 h2) ha hbn he k1 k2
      rwa [List.append_assoc] at this
theorem IsTree.other {pl : List Nm} {t1 t2 : List Tie} {a b : Nm} {k k' : Int} (h : IsTree pl (t1 ++ (a, b, k) :: t2)) (h1 : 1 ≤ k') (h2 : k' ≤ 1000000) : IsTree pl (t1 ++ (a, b, k') :: t2) := by
  obtain ⟨os, es, g, p1, p2⟩ := h
  obtain ⟨s1, s2, rfl⟩ := List.append_of_mem (p2.mem_iff.mp (List.mem_append_right t1 (List.mem_cons_self ..)))
  have q := (List.perm_middle.symm.trans p2).trans List.perm_middle
  have q' := q.cons_inv
  exact ⟨os, _, g.other rfl h1 h2, p1, (List.perm_middle.trans (q'.cons _)).trans List.perm_middle.symm⟩
/-- x is next to y -/
def Nb (p : List Nm) (x y : Nm) : Prop := ∃ i : Nat, p[i]? = some x ∧ p[i + 1]? = some y
theorem Nb.mem {p : List Nm} {x y : Nm} (h : Nb p x y) : x ∈ p ∧ y ∈ p := by
  obtain ⟨i, a, b⟩ := h
  exact ⟨List.mem_of_getElem? a, List.mem_of_getElem? b⟩
theorem nb_snoc {q : List Nm} {v w x y : Nm} : Nb (q ++ [v] ++ [w]) x y ↔ Nb (q ++ [v]) x y ∨ (v = x ∧ w = y) := by
  constructor
  · rintro ⟨i, a, b⟩
    by_cases lt : i + 1 < (q ++ [v]).length
    · rw [List.getElem?_append_left (by omega)] at a
      rw [List.getElem?_append_left lt] at b
      exact .inl ⟨i, a, b⟩
    · have ei : i + 1 = (q ++ [v]).length := by
        have := (List.getElem?_eq_some_iff.mp b).1
        simp at this lt ⊢
        omega
      rw [List.getElem?_append_left (by omega)] at a
      rw [ei, List.getElem?_append_right (by omega)] at b
      simp at b
      rw [List.length_append, List.length_singleton] at ei
      have ei' : i = q.length := by omega
      rw [ei', List.getElem?_append_right (by omega)] at a
      simp at a
      exact .inr ⟨a, b⟩
  · rintro (⟨i, a, b⟩ | ⟨rfl, rfl⟩)
    · exact ⟨i, by rw [List.getElem?_append_left (List.getElem?_eq_some_iff.mp a).1]; exact a, by rw [List.getElem?_append_left (List.getElem?_eq_some_iff.mp b).1]; exact b⟩
    · exact ⟨q.length, by simp, by simp⟩
theorem Way.longer {pl : List Nm} {t1 t2 : List Tie} {a b : Nm} {k m : Int} (ht : IsTree pl (t1 ++ (a, b, k) :: t2)) {u v : Nm} {p : List Nm} {L : Int} (h : Way (t1 ++ (a, b, k) :: t2) u v p L) :
    ∃ L', Way (t1 ++ (a, b, k + m) :: t2) u v p L' ∧ (Nb p a b ∨ Nb p b a → L' = L + m) ∧ (¬ (Nb p a b ∨ Nb p b a) → L' = L) := by
  have hab : Adj (t1 ++ (a, b, k) :: t2) a b k := .inl (by simp)
  have hab' : Adj (t1 ++ (a, b, k + m) :: t2) a b (k + m) := .inl (by simp)
  have old : ∀ {x y : Nm} {l : Int}, Adj (t1 ++ (a, b, k) :: t2) x y l → ¬ ((x = a ∧ y = b) ∨ (x = b ∧ y = a)) → Adj (t1 ++ (a, b, k + m) :: t2) x y l := by
    intro x y l h no
    have one : ∀ {x y : Nm} {l : Int}, (x, y, l) ∈ t1 ++ (a, b, k) :: t2 → ¬ (x = a ∧ y = b) → (x, y, l) ∈ t1 ++ (a, b, k + m) :: t2 := by
      intro x y l h no
      rcases List.mem_append.mp h with z | z
      · exact List.mem_append_left _ z
      · rcases List.mem_cons.mp z with z | z
        · cases z
          exact absurd ⟨rfl, rfl⟩ no
        · exact List.mem_append_right _ (List.mem_cons_of_mem _ z)
    rcases h with h | h
    · exact .inl (one h fun z => no (.inl z))
    · exact .inr (one h fun z => no (.inr ⟨z.2, z.1⟩))
  induction h with
  | nil =>
    refine ⟨0, .nil, fun h => ?_, fun _ => rfl⟩
    exfalso
    rcases h with ⟨i, _, e⟩ | ⟨i, _, e⟩ <;> simp at e
  | @snoc v w p L l h1 ha hn ih =>
    obtain ⟨L1, w1, f1, f2⟩ := ih
    obtain ⟨q, rfl⟩ := h1.last
    by_cases e : (v = a ∧ w = b) ∨ (v = b ∧ w = a)
    · have no : ¬ (Nb (q ++ [v]) a b ∨ Nb (q ++ [v]) b a) := by
        rintro (z | z)
        · rcases e with ⟨_, ew⟩ | ⟨_, ew⟩
          · exact hn (ew ▸ z.mem.2)
          · exact hn (ew ▸ z.mem.1)
        · rcases e with ⟨_, ew⟩ | ⟨_, ew⟩
          · exact hn (ew ▸ z.mem.1)
          · exact hn (ew ▸ z.mem.2)
      have el : l = k := by
        rcases e with ⟨rfl, rfl⟩ | ⟨rfl, rfl⟩
        · exact ht.adj_one ha hab
        · exact ht.adj_one ha hab.symm
      have a' : Adj (t1 ++ (a, b, k + m) :: t2) v w (k + m) := by
        rcases e with ⟨rfl, rfl⟩ | ⟨rfl, rfl⟩
        · exact hab'
        · exact hab'.symm
      have yes : Nb (q ++ [v] ++ [w]) a b ∨ Nb (q ++ [v] ++ [w]) b a := by
        rcases e with ⟨rfl, rfl⟩ | ⟨rfl, rfl⟩
        · exact .inl (nb_snoc.mpr (.inr ⟨rfl, rfl⟩))
        · exact .inr (nb_snoc.mpr (.inr ⟨rfl, rfl⟩))
      have := f2 no
      exact ⟨L1 + (k + m), .snoc w1 a' hn, fun _ => by omega, fun z => absurd yes z⟩
    · have iff : (Nb (q ++ [v] ++ [w]) a b ∨ Nb (q ++ [v] ++ [w]) b a) ↔ (Nb (q ++ [v]) a b ∨ Nb (q ++ [v]) b a) := by
        rw [nb_snoc, nb_snoc]
        constructor
        · rintro ((z | z) | (z | z))
          · exact .inl z
          · exact absurd (.inl z) e
          · exact .inr z
          · exact absurd (.inr z) e
        · rintro (z | z)
          · exact .inl (.inl z)
          · exact .inr (.inl z)
      refine ⟨L1 + l, .snoc w1 (old ha e) hn, fun z => ?_, fun z => ?_⟩
      · have := f1 (iff.mp z)
        omega
      · have := f2 fun y => z (iff.mpr y)
        omega
end Far

namespace Far
open PySem PySem.Spec PyProof.Rows L2
open SX (S)
/-! ### a tie made longer -/
section
variable {pl : List Nm} {t1 t2 : List Tie} {a b : Nm} {k m : Int}
theorem nb_cross (h : IsTree pl (t1 ++ (a, b, k) :: t2)) {u v : Nm} (hu : u ∈ pl) (hv : v ∈ pl) :
    (Nb (path (t1 ++ (a, b, k) :: t2) u v) a b ∨ Nb (path (t1 ++ (a, b, k) :: t2) u v) b a) ↔ ¬ (dist (t1 ++ (a, b, k) :: t2) a u < dist (t1 ++ (a, b, k) :: t2) b u ↔ dist (t1 ++ (a, b, k) :: t2) a v < dist (t1 ++ (a, b, k) :: t2) b v) := by
  have ad : Adj (t1 ++ (a, b, k) :: t2) a b k := .inl (by simp)
  have da := ad.symm
  obtain ⟨u1, u2⟩ := onA_iff h ad hu
  obtain ⟨v1, v2⟩ := onA_iff h ad hv
  have k1 := (adj_in h ad).2.2
  generalize hts : t1 ++ (a, b, k) :: t2 = ts at *
  unfold Nb
  rw [nb_iff, nb_iff]
  constructor
  · rintro (⟨A, C, e⟩ | ⟨A, C, e⟩)
    · obtain ⟨c1, c2⟩ := cross1 h ad hu hv e
      exact fun z => absurd (z.mp (by omega)) (by omega)
    · obtain ⟨c1, c2⟩ := cross1 h da hu hv e
      exact fun z => absurd (z.mpr (by omega)) (by omega)
  · intro no
    by_cases c : dist ts a u < dist ts b u
    · have cv : ¬ dist ts a v < dist ts b v := fun z => no ⟨fun _ => z, fun _ => c⟩
      exact .inl (cross2 h ad hu hv (u1.mp c) (v2.mp cv))
    · have cv : dist ts a v < dist ts b v := by
        by_cases q : dist ts a v < dist ts b v
        · exact q
        · exact absurd ⟨fun z => absurd z c, fun z => absurd z q⟩ no
      exact .inr (cross2 h da hu hv (u2.mp c) (v1.mp cv))
/-- whether on the side of a -/
noncomputable def sA (ts : List Tie) (a b x : Nm) : Bool := decide (dist ts a x < dist ts b x)
theorem dist_longer (h : IsTree pl (t1 ++ (a, b, k) :: t2)) (h1 : 1 ≤ k + m) (h2 : k + m ≤ 1000000) {u v : Nm} (hu : u ∈ pl) (hv : v ∈ pl) :
    dist (t1 ++ (a, b, k + m) :: t2) u v = dist (t1 ++ (a, b, k) :: t2) u v + if sA (t1 ++ (a, b, k) :: t2) a b u = sA (t1 ++ (a, b, k) :: t2) a b v then 0 else m := by
  obtain ⟨L', w, f1, f2⟩ := Way.longer (m := m) h (h.the_way hu hv)
  have e := (h.other h1 h2).is_way w
  have nc := nb_cross h hu hv
  rw [e.2]
  unfold sA
  by_cases c : (dist (t1 ++ (a, b, k) :: t2) a u < dist (t1 ++ (a, b, k) :: t2) b u ↔ dist (t1 ++ (a, b, k) :: t2) a v < dist (t1 ++ (a, b, k) :: t2) b v)
  · rw [if_pos (decide_eq_decide.mpr c), f2 (fun z => nc.mp z c)]
    omega
  · rw [if_neg (fun z => c (decide_eq_decide.mp z)), f1 (nc.mpr c)]
end
theorem sum_cross {α : Type} (f : α → Int) (q : α → Bool) (P : Bool) (m : Int) : ∀ l : List α, (l.map fun x => f x + if P = q x then 0 else m).sum = (l.map f).sum + m * (if P = true then (l.length : Int) - ((l.filter q).length : Int) else ((l.filter q).length : Int))
  | [] => by simp
  | x :: r => by
    have ih := sum_cross f q P m r
    rw [List.map_cons, List.map_cons, List.sum_cons, List.sum_cons, ih, List.filter_cons, List.length_cons]
    cases P <;> cases hc : q x <;> simp <;> grind
theorem sum_cross2 {α : Type} (g : α → Int) (q : α → Bool) (m x y : Int) : ∀ l : List α, (l.map fun u => g u + m * (if q u = true then x else y)).sum = (l.map g).sum + m * (((l.filter q).length : Int) * x + ((l.length : Int) - ((l.filter q).length : Int)) * y)
  | [] => by simp
  | u :: r => by
    have ih := sum_cross2 g q m x y r
    rw [List.map_cons, List.map_cons, List.sum_cons, List.sum_cons, ih, List.filter_cons, List.length_cons]
    cases hc : q u <;> simp <;> grind
theorem total_longer {pl : List Nm} {t1 t2 : List Tie} {a b : Nm} {k m : Int} (h : IsTree pl (t1 ++ (a, b, k) :: t2)) (h1 : 1 ≤ k + m) (h2 : k + m ≤ 1000000) :
    totOf pl (t1 ++ (a, b, k + m) :: t2) - totOf pl (t1 ++ (a, b, k) :: t2) = m * (sidN (t1 ++ (a, b, k) :: t2) a b pl : Int) * ((pl.length : Int) - (sidN (t1 ++ (a, b, k) :: t2) a b pl : Int)) := by
  have s1 := tot_sums h
  have s2 := tot_sums (h.other h1 h2)
  have hd := fun u hu x hx => dist_longer (u := u) (v := x) h h1 h2 hu hx
  have es : sidN (t1 ++ (a, b, k) :: t2) a b pl = (pl.filter (sA (t1 ++ (a, b, k) :: t2) a b)).length := rfl
  rw [es]
  generalize t1 ++ (a, b, k) :: t2 = ts at *
  generalize t1 ++ (a, b, k + m) :: t2 = ts' at *
  have e1 : ∀ u ∈ pl, sumOf pl ts' u = sumOf pl ts u + m * (if sA ts a b u = true then (pl.length : Int) - ((pl.filter (sA ts a b)).length : Int) else ((pl.filter (sA ts a b)).length : Int)) := fun u hu => by
    have := sum_cross (fun x => dist ts u x) (sA ts a b) (sA ts a b u) m pl
    unfold sumOf
    rw [← this]
    exact congrArg List.sum (List.map_congr_left fun x hx => hd u hu x hx)
  have e2 := sum_cross2 (sumOf pl ts) (sA ts a b) m ((pl.length : Int) - ((pl.filter (sA ts a b)).length : Int)) (((pl.filter (sA ts a b)).length : Int)) pl
  rw [List.map_congr_left e1] at s2
  have e3 := e2.symm.trans s2
  rw [s1] at e3
  generalize ((pl.filter (sA ts a b)).length : Int) = s at e3 ⊢
  generalize (pl.length : Int) = n at e3 ⊢
  grind
/-! ### a leaf more -/
theorem Adj.more {ts : List Tie} {e : Tie} {u v : Nm} {k : Int} (h : Adj ts u v k) : Adj (ts ++ [e]) u v k := h.elim (fun z => .inl (List.mem_append_left _ z)) fun z => .inr (List.mem_append_left _ z)
theorem Way.more {ts : List Tie} {e : Tie} {u v : Nm} {p : List Nm} {L : Int} (h : Way ts u v p L) : Way (ts ++ [e]) u v p L := by
  induction h with
  | nil => exact .nil
  | snoc _ ha hn ih => exact .snoc ih ha.more hn
theorem IsTree.leaf {pl : List Nm} {ts : List Tie} {a b : Nm} {k : Int} (h : IsTree pl ts) (ha : a ∈ pl) (hb : b ∉ pl) (k1 : 1 ≤ k) (k2 : k ≤ 1000000) : IsTree (pl ++ [b]) (ts ++ [(a, b, k)]) := by
  obtain ⟨os, es, g, p, q⟩ := h
  exact ⟨os ++ [b], es ++ [(a, b, k)], .leaf g (p.mem_iff.mp ha) (fun z => hb (p.mem_iff.mpr z)) (.inl rfl) k1 k2, p.append_right _, q.append_right _⟩
section
variable {pl : List Nm} {ts : List Tie} {a b : Nm} {k : Int}
theorem dist_leaf (h : IsTree pl ts) (ha : a ∈ pl) (hb : b ∉ pl) (k1 : 1 ≤ k) (k2 : k ≤ 1000000) {u v : Nm} (hu : u ∈ pl) (hv : v ∈ pl) : dist (ts ++ [(a, b, k)]) u v = dist ts u v :=
  ((h.leaf ha hb k1 k2).is_way (h.the_way hu hv).more).2
theorem dist_new (h : IsTree pl ts) (ha : a ∈ pl) (hb : b ∉ pl) (k1 : 1 ≤ k) (k2 : k ≤ 1000000) {v : Nm} (hv : v ∈ pl) : dist (ts ++ [(a, b, k)]) b v = k + dist ts a v := by
  have w := (h.the_way ha hv).more (e := (a, b, k))
  have ins := (h.the_way ha hv).inside (fun e he => ⟨(h.ties e he).1, (h.ties e he).2.1⟩) ha
  exact ((h.leaf ha hb k1 k2).is_way (Way.cons (w := b) (k := k) (.inr (by simp)) w fun z => hb (ins b z))).2
theorem sum_plus {α : Type} (f : α → Int) (k : Int) : ∀ l : List α, (l.map fun x => k + f x).sum = k * (l.length : Int) + (l.map f).sum
  | [] => by simp
  | x :: r => by
    have ih := sum_plus f k r
    rw [List.map_cons, List.map_cons, List.sum_cons, List.sum_cons, ih, List.length_cons]
    grind
theorem sum_new (h : IsTree pl ts) (ha : a ∈ pl) (hb : b ∉ pl) (k1 : 1 ≤ k) (k2 : k ≤ 1000000) : sumOf (pl ++ [b]) (ts ++ [(a, b, k)]) b = sumOf pl ts a + k * (pl.length : Int) := by
  unfold sumOf
  rw [List.map_append, List.sum_append, List.map_congr_left fun x hx => dist_new h ha hb k1 k2 hx, sum_plus]
  have := ((h.leaf ha hb k1 k2).dist_self b).1
  have e : ([b].map fun x => dist (ts ++ [(a, b, k)]) b x).sum = 0 := by simp [this]
  rw [e]
  have e0 : (pl.map (dist ts a)).sum = (pl.map fun x => dist ts a x).sum := rfl
  omega
theorem total_new (h : IsTree pl ts) (ha : a ∈ pl) (hb : b ∉ pl) (k1 : 1 ≤ k) (k2 : k ≤ 1000000) : totOf (pl ++ [b]) (ts ++ [(a, b, k)]) = totOf pl ts + (sumOf pl ts a + k * (pl.length : Int)) := by
  have t' := h.leaf ha hb k1 k2
  have s1 := tot_sums h
  have s2 := tot_sums t'
  have sn := sum_new h ha hb k1 k2
  rw [List.map_append, List.sum_append] at s2
  have e1 : ∀ u ∈ pl, sumOf (pl ++ [b]) (ts ++ [(a, b, k)]) u = sumOf pl ts u + (k + dist ts a u) := fun u hu => by
    unfold sumOf
    rw [List.map_append, List.sum_append, List.map_congr_left fun x hx => dist_leaf h ha hb k1 k2 hu hx]
    have d1 := (t'.dist_symm (List.mem_append_left _ hu) (List.mem_append_right _ (List.mem_singleton.mpr rfl))).1
    rw [dist_new h ha hb k1 k2 hu] at d1
    simp [d1]
  rw [List.map_congr_left e1, sum_add, sum_plus] at s2
  have e2 : ([b].map (sumOf (pl ++ [b]) (ts ++ [(a, b, k)]))).sum = sumOf (pl ++ [b]) (ts ++ [(a, b, k)]) b := by simp
  rw [e2, sn, s1] at s2
  have e3 : (pl.map fun u => dist ts a u).sum = sumOf pl ts a := rfl
  have e4 : (pl.map (sumOf pl ts)).sum = (pl.map fun u => sumOf pl ts u).sum := rfl
  rw [e3] at s2
  omega
end
end Far

namespace Far
open PySem PySem.Spec PyProof.Rows L2
open SX (S)
/-! ### how many of each length -/
theorem zeros {α : Type} : ∀ l : List α, (l.map fun _ => (0 : Int)).sum = 0
  | [] => rfl
  | _ :: r => by rw [List.map_cons, List.sum_cons, zeros r]; rfl
theorem one_hit (g : Int → Int) (x : Int) : ∀ {ks : List Int}, ks.Nodup → x ∈ ks → (ks.map fun n => if x = n then g n else 0).sum = g x
  | [], _, h => by cases h
  | k :: r, nd, h => by
    obtain ⟨n1, n2⟩ := List.nodup_cons.mp nd
    rw [List.map_cons, List.sum_cons]
    by_cases e : x = k
    · have z : (r.map fun n => if x = n then g n else 0) = r.map fun _ => 0 := List.map_congr_left fun y hy => if_neg fun (q : x = y) => n1 (by rw [← e, q]; exact hy)
      rw [if_pos e, z, zeros, ← e]
      omega
    · rw [if_neg e]
      rcases List.mem_cons.mp h with z | z
      · exact absurd z e
      · rw [one_hit g x n2 z]
        omega
theorem sum_count (g : Int → Int) {ks : List Int} (nd : ks.Nodup) : ∀ {s : List Int}, (∀ x ∈ s, x ∈ ks) → (ks.map fun n => g n * ((s.countP fun z => z == n : Nat) : Int)).sum = (s.map g).sum
  | [], _ => by
    have : (ks.map fun n => g n * ((([] : List Int).countP fun z => z == n : Nat) : Int)) = ks.map fun _ => 0 := List.map_congr_left fun n _ => by simp
    rw [this, zeros]
    rfl
  | x :: s, h => by
    have ih := sum_count g nd (s := s) fun y hy => h y (List.mem_cons_of_mem _ hy)
    have e : (ks.map fun n => g n * (((x :: s).countP fun z => z == n : Nat) : Int)) = ks.map fun n => g n * ((s.countP fun z => z == n : Nat) : Int) + if x = n then g n else 0 := List.map_congr_left fun n _ => by
      rw [List.countP_cons]
      by_cases q : x = n
      · rw [if_pos q, if_pos (by simpa using q)]
        grind
      · rw [if_neg q, if_neg (by simpa using q)]
        simp
    rw [e, sum_add (fun n => g n * ((s.countP fun z => z == n : Nat) : Int)) (fun n => if x = n then g n else 0), ih, one_hit g x nd (h x List.mem_cons_self), List.map_cons, List.sum_cons]
    omega
theorem dd_nodup (s : List Int) : (dd s).Nodup := by
  have : ∀ r : List Int, ∀ t : List Int, t.reverse = r → (dd t).Nodup := by
    intro r
    induction r with
    | nil =>
      intro t e
      rw [List.reverse_eq_nil_iff.mp e]
      exact List.nodup_nil
    | cons y r ih =>
      intro t e
      have e2 : t = r.reverse ++ [y] := by rw [← List.reverse_reverse t, e, List.reverse_cons]
      subst e2
      have := ih r.reverse (List.reverse_reverse r)
      rw [dd_snoc]
      split
      · exact this
      · rename_i h
        refine List.nodup_append.mpr ⟨this, by simp, fun a ha b hb e => ?_⟩
        rw [List.mem_singleton.mp hb] at e
        exact h (e ▸ ha)
  exact this s.reverse s rfl
theorem prs_half (ts : List Tie) : ∀ l : List Nm, 2 * ((prsR ts l).length : Int) = (l.length : Int) * ((l.length : Int) - 1)
  | [] => rfl
  | a :: r => by
    have ih := prs_half ts r
    show 2 * (((r.map (fun y => (dist ts a y, a, y)) ++ prsR ts r).length : Nat) : Int) = _
    rw [List.length_append, List.length_map, List.length_cons]
    grind
theorem lens_half (pl : List Nm) (ts : List Tie) : 2 * ((lensOf pl ts).length : Int) = (pl.length : Int) * ((pl.length : Int) - 1) := by
  unfold lensOf
  rw [List.length_map, pairsOf_rec]
  exact prs_half ts pl
theorem counts_all {pl : List Nm} {ts : List Tie} {s : List Int} (p : s.Perm (lensOf pl ts)) :
    ((dd s).map fun n => ((s.countP fun z => z == n : Nat) : Int)).sum = ((lensOf pl ts).length : Int) ∧ ((dd s).map fun n => n * ((s.countP fun z => z == n : Nat) : Int)).sum = totOf pl ts := by
  have nd := dd_nodup s
  have h : ∀ x ∈ s, x ∈ dd s := fun x hx => (dd_mem s x).mpr hx
  have c1 := sum_count (fun _ => 1) nd h
  have c2 := sum_count (fun n => n) nd h
  refine ⟨?_, ?_⟩
  · rw [← p.length_eq]
    have e1 : ((dd s).map fun n => (1 : Int) * ((s.countP fun z => z == n : Nat) : Int)) = (dd s).map fun n => ((s.countP fun z => z == n : Nat) : Int) := List.map_congr_left fun n _ => Int.one_mul _
    rw [e1] at c1
    rw [c1]
    clear c1 c2 e1 p nd h
    induction s with
    | nil => rfl
    | cons x r ih => rw [List.map_cons, List.sum_cons, ih, List.length_cons]; omega
  · rw [c2, List.map_id']
    have : ∀ {a b : List Int}, a.Perm b → a.sum = b.sum := by
      intro a b q
      induction q with
      | nil => rfl
      | cons x _ ih => rw [List.sum_cons, List.sum_cons, ih]
      | swap x y l => rw [List.sum_cons, List.sum_cons, List.sum_cons, List.sum_cons]; omega
      | trans _ _ i1 i2 => rw [i1, i2]
    exact this p
/-! ### the greatest length -/
noncomputable def topLen (pl : List Nm) (ts : List Tie) : Int := match farOf pl ts with
  | [] => 0
  | x :: _ => x.1
theorem farD_len (pl : List Nm) (ts : List Tie) : ∃ u v : Nm, farD pl ts = .tuple [.int (topLen pl ts), .str (S u), .str (S v)] := by
  unfold farD topLen
  cases farOf pl ts with
  | nil => exact ⟨_, _, rfl⟩
  | cons x r => exact ⟨_, _, rfl⟩
theorem lens_nonneg {pl : List Nm} {ts : List Tie} (F : Fine pl ts) : ∀ n ∈ lensOf pl ts, 0 ≤ n := fun n hn => by
  obtain ⟨x, hx, rfl⟩ := List.mem_map.mp hn
  obtain ⟨h1, h2, h3⟩ := mem_pairs hx
  rw [h3]
  exact ((F.tree.the_way h1 h2).nonneg fun e he => (F.tree.ties e he).2.2.1).1
theorem top_is {pl : List Nm} {ts : List Tie} (F : Fine pl ts) : topLen pl ts ∈ lensOf pl ts ++ [0] ∧ ∀ y ∈ lensOf pl ts ++ [0], y ≤ topLen pl ts := by
  cases hp : pairsOf pl ts with
  | nil =>
    have e1 : lensOf pl ts = [] := by unfold lensOf; rw [hp]; rfl
    have e2 : topLen pl ts = 0 := by unfold topLen; rw [farOf_none hp]
    rw [e1, e2]
    simp
  | cons x r =>
    obtain ⟨k1, k2, k3⟩ := fold_max r x.1
    have eb : best (pairsOf pl ts) = r.foldl (fun m y => max m y.1) x.1 := by rw [hp]; rfl
    have bm : best (pairsOf pl ts) ∈ lensOf pl ts := by
      unfold lensOf
      rw [eb, hp, List.map_cons]
      rcases k1 with z | z
      · rw [z]
        exact List.mem_cons_self
      · exact List.mem_cons_of_mem _ z
    have bg : ∀ y ∈ lensOf pl ts, y ≤ best (pairsOf pl ts) := fun y hy => by
      unfold lensOf at hy
      rw [hp, List.map_cons] at hy
      rw [eb]
      rcases List.mem_cons.mp hy with z | z
      · rw [z]
        exact k2
      · obtain ⟨w, hw, e⟩ := List.mem_map.mp z
        rw [← e]
        exact k3 w hw
    have et : topLen pl ts = best (pairsOf pl ts) := by
      unfold topLen
      cases hf : farOf pl ts with
      | nil =>
        exfalso
        obtain ⟨w, hw, e⟩ := List.mem_map.mp bm
        have : w ∈ farOf pl ts := List.mem_filter.mpr ⟨hw, by simpa using e⟩
        rw [hf] at this
        cases this
      | cons z q =>
        have : z ∈ farOf pl ts := by rw [hf]; exact List.mem_cons_self
        have := (List.mem_filter.mp this).2
        simpa using this
    rw [et]
    refine ⟨List.mem_append_left _ bm, fun y hy => ?_⟩
    rcases List.mem_append.mp hy with z | z
    · exact bg y z
    · rw [List.mem_singleton.mp z]
      exact lens_nonneg F _ bm
end Far

namespace Far
open PySem PySem.Spec PyProof.Rows L2
open C8 (pss_cut tCut)
open SX (S)
open RZ (ItzT iZipA pi_zipA)
structure TxtS17 (mg : Str → Option Value) : Prop where
  len : mg "len" = none
  zip : mg "zip" = none
  list : mg "list" = none
  sum : mg "sum" = none
  max : mg "max" = none
theorem ikm_keys (ks : List Int) (f : Int → V) : ((ikm ks f).map fun kv => kV kv.1) = ks.map V.int := by
  unfold ikm
  rw [List.map_map]
  rfl
theorem sidN_snoc (ts : List Tie) (a b x : Nm) (l : List Nm) : sidN ts a b (l ++ [x]) = sidN ts a b l + if dist ts a x < dist ts b x then 1 else 0 := by
  unfold sidN
  rw [List.filter_append, List.length_append]
  congr 1
  by_cases c : dist ts a x < dist ts b x
  · rw [if_pos c]
    simp [c]
  · rw [if_neg c]
    simp [c]
abbrev s_law_side : Stmt := topS 24
abbrev N_law_side : List Str := ["tree", "one", "other", "near", "far", "length", "more"]
theorem sc_law_side : FnScope N_law_side ["tree", "one", "other"] (defScope s_law_side) := ⟨rfl, rfl, rfl, by decide +kernel, rfl, by decide +kernel, by decide +kernel⟩
abbrev s_law_together_right : Stmt := topS 25
abbrev N_law_together_right : List Str := ["tree", "counts", "sums", "many", "length", "pairs"]
theorem sc_law_together_right : FnScope N_law_together_right ["tree"] (defScope s_law_together_right) := ⟨rfl, rfl, rfl, by decide +kernel, rfl, by decide +kernel, by decide +kernel⟩
section
variable {P : Program} {w : World} {K : PySem.W.Frag} {mg : Str → Option Value} {base : Heap}
def spSide : Sp := fun vs H Q _ => ∃ (v : V) (pl : List Nm) (ts : List Tie) (a b : Nm), vs = [v, .str (S a), .str (S b)] ∧ Dt H v (treeD pl ts) ∧ Fine pl ts ∧ a ∈ pl ∧ b ∈ pl ∧ ∀ H' : Hp, Same H H' → Q (.int (sidN ts a b pl : Nat)) H'
theorem ok_side {f : Addr} {fd : FuncData} (F : Fun K "_law_side" "_law_side" s_law_side f fd) (T : TxtS17 mg) (Clengths_from : Cal P w K mg base 3 "lengths_from" spLens) : FnOk P w K mg base CX0 4 f fd ["tree", "one", "other"] spSide := by
  refine F.ok sc_law_side (fun vs H Q E h => ?_) (fun cdv A outer s H vs Q E hr h => ?_)
  · obtain ⟨v, pl, ts, a, b, rfl, _⟩ := h
    rfl
  · obtain ⟨v, pl, ts, a, b, rfl, hd, fine, ha, hb, q⟩ := h
    have pl1 := fine.len
    refine ⟨_, (pss_cons (ps_set (i := 3) sc_law_side.nd rfl (.inl rfl) (pe_c Clengths_from hr (by decide) rfl (pa_cons (pv 0) (pa_cons (pv 1) pa_nil))))
      (pss_cons (ps_set (i := 4) sc_law_side.nd rfl (.inl rfl) (pe_c Clengths_from hr (by decide) rfl (pa_cons (pv 0) (pa_cons (pv 2) pa_nil))))
      (pss_one (ps_ret (pe_callB call_len_seq (by rfl) T.len bt_len (pa_cons (pe_lc (own := [("length", 5), ("more", 6)]) (g := gTup K 2 (gCons (gName 5) (gCons (gName 6) gNil)))  rfl sc_law_side.nd (pi_zipA (by rfl) T.zip (pa_cons (pv 3) (pa_cons (pv 4) pa_nil))) (blkOk_by (N := N_law_side) (sc := defScope s_law_side) (by decide +kernel)) (fun _ _ _ _ _ => (pg_tup rfl (pgs_cons (pg_name (i := 5) sc_law_side.nd rfl (.inl rfl)) (pgs_cons (pg_name (i := 6) sc_law_side.nd rfl (.inl rfl)) pgs_nil)))) (fun _ _ _ _ _ => pts_one (pt_cmpR op_lt (pv 5) (pv 6) (nomark _))) (fun _ _ _ _ _ => pe_int)) pa_nil)))))), ?_⟩
    refine ⟨_, rfl, _, rfl, v, pl, ts, a, rfl, hd, fine, ha, fun H1 L1 S1 n1 h1 => ?_⟩
    refine ⟨_, rfl, _, rfl, v, pl, ts, b, rfl, Dt.keep (TK.of S1) hd, fine, hb, fun H2 L2 S2 n2 h2 => ?_⟩
    have h12 := S2 _ _ h1
    refine ⟨_, rfl, _, rfl, L1, L2, _, _, rfl, .inr ⟨SqT.of h12, SqT.of h2, fun D nD => ?_⟩⟩
    refine zip_it (xs := pl.map fun x => V.int (dist ts a x)) (ys := pl.map fun x => V.int (dist ts b x)) (by simp) (fun i H' => Same H2 H' ∧ H' D = some (.lst (List.replicate (sidN ts a b (pl.take i)) (.int 1)))) ⟨same_new (Same.refl H2) nD, upd_same⟩ (fun i H' hP => ⟨SqT.of (hP.1 _ _ h12), SqT.of (hP.1 _ _ h2)⟩) (fun i x y H' T hx hy hP nT => ?_) (fun H' hP => ?_)
    · obtain ⟨SM, hD⟩ := hP
      rw [List.getElem?_map] at hx hy
      cases el : pl[i]? with
      | none => rw [el] at hx; cases hx
      | some l =>
        rw [el] at hx hy
        cases hx
        cases hy
        have et : pl.take (i + 1) = pl.take i ++ [l] := by
          rw [List.take_add_one, el]
          rfl
        have il := (List.getElem?_eq_some_iff.mp el).1
        have sl := sidN_le ts a b (pl.take i)
        rw [List.length_take] at sl
        have DT : D ≠ T := ne_of_none hD nT
        have hD2 : (upd H' T (.tup [.int (dist ts a l), .int (dist ts b l)])) D = some (.lst (List.replicate (sidN ts a b (pl.take i)) (.int 1))) := by
          rw [upd_ne DT]
          exact hD
        refine ⟨T, _, rfl, SqT.of upd_same, rfl, _, _, rfl, _, _, rfl, rfl, rfl, _, rfl, _, rfl, _, _, rfl, rfl, _, rfl, ?_⟩
        rw [et, sidN_snoc]
        refine ite2 (fun z => ?_) (fun z => ?_)
        · have z : dist ts a l < dist ts b l := of_decide_eq_true z
          rw [if_pos z]
          refine ⟨_, hD2, by rw [List.length_replicate]; exact sz_lt (by omega), same_put (same_new SM nT) nD, ?_⟩
          rw [upd_same, List.replicate_succ']
        · have z : ¬ dist ts a l < dist ts b l := fun y => z (decide_eq_true y)
          rw [if_neg z]
          exact ⟨same_new SM nT, hD2⟩
    · obtain ⟨SM, hD⟩ := hP
      rw [List.length_map, List.take_length] at hD
      refine ⟨D, _, rfl, .inl (SqL.of hD), ?_⟩
      rw [List.length_replicate]
      exact q _ ((S1.trans S2).trans SM)
def spTogR : Sp := fun vs H Q _ => ∃ (v : V) (pl : List Nm) (ts : List Tie), vs = [v] ∧ Dt H v (treeD pl ts) ∧ Fine pl ts ∧ ∀ H' : Hp, Same H H' → Q (.bl true) H'
theorem ok_together {f : Addr} {fd : FuncData} (F : Fun K "_law_together_right" "_law_together_right" s_law_together_right f fd) (T : TxtS17 mg) (Cpairs_by_length : Cal P w K mg base 5 "pairs_by_length" spByLen) (Csums_from : Cal P w K mg base 4 "sums_from" spSums) (Ctotal_of : Cal P w K mg base 5 "total_of" spTotal)
    (Ccount_so_far : Cal P w K mg base 5 "count_so_far" spCount) (Cfarthest : Cal P w K mg base 5 "farthest" spFarthest) : FnOk P w K mg base CX0 6 f fd ["tree"] spTogR := by
  refine F.ok sc_law_together_right (fun vs H Q E h => ?_) (fun cdv A outer s0 H vs Q E hr h => ?_)
  · obtain ⟨v, pl, ts, rfl, _⟩ := h
    rfl
  · obtain ⟨v, pl, ts, rfl, hd, fine, q⟩ := h
    obtain ⟨t, a, b, vs, rfl, ht, ha, hb, hA⟩ := dt_tree hd
    have pl1 := fine.len
    have ll := lens_len fine
    refine ⟨_, (pss_cons (ps_set (i := 1) sc_law_together_right.nd rfl (.inl rfl) (pe_c Cpairs_by_length hr (by decide) rfl (pa_cons (pv 0) pa_nil)))
      (pss_cons (ps_set (i := 2) sc_law_together_right.nd rfl (.inl rfl) (pe_c Csums_from hr (by decide) rfl (pa_cons (pv 0) pa_nil)))
      (pss_cons (ps_set (i := 3) sc_law_together_right.nd rfl (.inl rfl) (pe_callB call_len_seq (by rfl) T.len bt_len (pa_cons (pe_ix ix_tup (pv 0) pe_int (fun _ _ => rfl)) pa_nil)))
      (pss_cut (ps_if (pt_cmpR op_ne (pe_callB (cr_sum rfl) (by rfl) T.sum bt_sum (pa_cons (pe_listVals rfl (pv 1) (by rfl) T.list bt_list) pa_nil)) (pe_op op_fdiv (pe_op op_mul (pv 3) (pe_op op_sub (pv 3) pe_int)) pe_int) (nomark _))
        (pss_one (ps_ret pe_bl))
        pss_nil)
      (pss_cut (ps_if (pt_cmpR op_ne (pe_callB (cr_sumT (K := K) rfl) (by rfl) T.sum bt_sum (pa_cons (pv 2) pa_nil)) (pe_op op_mul pe_int (pe_c Ctotal_of hr (by decide) rfl (pa_cons (pv 0) pa_nil))) (nomark _))
        (pss_one (ps_ret pe_bl))
        pss_nil)
      (pss_cut (ps_if (pt_cmpR op_ne (pe_callB (cr_sum rfl) (by rfl) T.sum bt_sum (pa_cons (pe_lc (own := [("length", 4), ("pairs", 5)]) (g := gTup K 2 (gCons (gName 4) (gCons (gName 5) gNil))) (tt := tYes) rfl sc_law_together_right.nd (pi_list (LiI.pe_listItems rfl (pv 1) (by rfl) T.list bt_list)) (blkOk_by (N := N_law_together_right) (sc := defScope s_law_together_right) (by decide +kernel)) (fun _ _ _ _ _ => (pg_tup rfl (pgs_cons (pg_name (i := 4) sc_law_together_right.nd rfl (.inl rfl)) (pgs_cons (pg_name (i := 5) sc_law_together_right.nd rfl (.inl rfl)) pgs_nil)))) (fun _ _ _ _ _ => pts_nil) (fun _ _ _ _ _ => (pe_op op_mul (pv 4) (pv 5)))) pa_nil)) (pe_c Ctotal_of hr (by decide) rfl (pa_cons (pv 0) pa_nil)) (nomark _))
        (pss_one (ps_ret pe_bl))
        pss_nil)
      (pss_cut (ps_for PassesOwn.never rfl (pi_list (pe_op op_cat (pe_slice sl_list (pe_callTy (call_listD rfl) (by rfl) T.list bt_list (pa_cons (pv 1) pa_nil)) po_none (po_some pe_int)) (pe_slice sl_list (pe_callTy (call_listD rfl) (by rfl) T.list bt_list (pa_cons (pv 1) pa_nil)) (po_some (pe_un un_neg pe_int)) po_none))) (pg_name (i := 4) sc_law_together_right.nd rfl (.inl rfl))
        (pss_one (ps_if (pt_cmpR op_ne (pe_ix ix_tup (pe_c Ccount_so_far hr (by decide) rfl (pa_cons (pv 0) (pa_cons (pv 4) pa_nil))) pe_int (fun _ _ => rfl)) (pe_dget (hu_of hr) (pv 1) (pv 4) (fun _ _ => rfl)) (nomark _))
          (pss_one (ps_ret pe_bl))
          pss_nil)))
      (pss_one (ps_ret (pe_cmpR op_eq (pe_callB (cr_max rfl) (by rfl) T.max bt_max (pa_cons (pe_op op_cat (pe_callTy (call_listD rfl) (by rfl) T.list bt_list (pa_cons (pv 1) pa_nil)) (pe_lst (pa_cons pe_int pa_nil))) pa_nil)) (pe_ix ix_tup (pe_c Cfarthest hr (by decide) rfl (pa_cons (pv 0) pa_nil)) pe_int (fun _ _ => rfl)) (nomark _))))))))))), ?_⟩
    refine ⟨_, rfl, .ref t, pl, ts, rfl, hd, fine, fun H1 D s S1 nD perm srt hD => ?_⟩
    refine ⟨_, rfl, .ref t, pl, ts, rfl, Dt.keep (TK.of S1) hd, fine, fun H2 L S2 nL hL => ?_⟩
    have S12 := S1.trans S2
    have ha2 := ha.same S12
    have hd2 := Dt.keep (TK.of S12) hd
    refine ⟨_, rfl, t, _, 0, .ref a, rfl, rfl, SqT.of (S12 _ _ ht), atI_nat (j := 0) rfl, a, _, rfl, .inr ha2.sq, ?_⟩
    have en : ((pl.map S).map V.str).length = pl.length := by rw [List.length_map, List.length_map]
    rw [en]
    have hD2 := S2 _ _ hD
    obtain ⟨c1, c2⟩ := counts_all perm
    have half := lens_half pl ts
    have sl : s.length ≤ 1000000 := by rw [perm.length_eq]; exact ll
    have ddl := dd_len s
    have cle : ∀ n : Int, ((s.countP fun z => z == n : Nat) : Int) ≤ 1000000 := fun n => by have := List.countP_le_length (p := fun z => z == n) (l := s); omega
    clear hA hb
    -- the pairs are all
    refine ⟨fun σ' H' => σ' = [some (.ref t), some (.ref D), some (.ref L), some (.int (pl.length : Nat)), none, none] ∧ Same H2 H', ?_, fun σ' H3 hM => ?_⟩
    · refine ⟨_, rfl, D, _, rfl, hD2, fun p np => ?_⟩
      have ev : (ikm (dd s) (cntF s)).map (·.2) = ((dd s).map fun n => ((s.countP fun z => z == n : Nat) : Int)).map V.int := by
        unfold ikm cntF
        rw [List.map_map, List.map_map]
        rfl
      rw [ev]
      refine ⟨p, _, rfl, SqL.of upd_same, _, rfl, _, rfl, _, _, rfl, rfl, _, _, rfl, rfl, .inl ⟨by omega, by omega⟩, _, _, rfl, rfl, ⟨by decide, by decide⟩, rfl, _, rfl, ?_⟩
      rw [c1]
      have e : ((lensOf pl ts).length : Int) = (pl.length : Int) * ((pl.length : Int) - 1) / 2 := by
        generalize (pl.length : Int) * ((pl.length : Int) - 1) = z at half ⊢
        omega
      rw [show (!decide (V.int ((lensOf pl ts).length : Int) = V.int ((pl.length : Int) * ((pl.length : Int) - 1) / 2))) = false by rw [e]; simp]
      exact iteF ⟨rfl, same_new (Same.refl H2) np⟩
    · obtain ⟨rfl, S3⟩ := hM
      have hd3 := Dt.keep (TK.of S3) hd2
      -- the sums are twice the total
      refine ⟨fun σ' H' => σ' = [some (.ref t), some (.ref D), some (.ref L), some (.int (pl.length : Nat)), none, none] ∧ Same H3 H', ?_, fun σ' H4 hM => ?_⟩
      · refine ⟨_, rfl, L, _, rfl, SqT.of (S3 _ _ hL), _, rfl, .ref t, pl, ts, rfl, hd3, fine, fun H4 S4 => ⟨_, _, rfl, rfl, .inl ⟨by decide, by decide⟩, rfl, _, rfl, ?_⟩⟩
        rw [tot_sums fine.tree]
        rw [show (!decide (V.int (2 * totOf pl ts) = V.int (2 * totOf pl ts))) = false by simp]
        exact iteF ⟨rfl, S4⟩
      · obtain ⟨rfl, S4⟩ := hM
        have S24 := S3.trans S4
        have hD4 := S24 _ _ hD2
        have hd4 := Dt.keep (TK.of S4) hd3
        -- lengths times numbers
        refine ⟨fun σ' H' => σ' = [some (.ref t), some (.ref D), some (.ref L), some (.int (pl.length : Nat)), none, none] ∧ Same H4 H', ?_, fun σ' H5 hM => ?_⟩
        · refine ⟨_, rfl, D, _, rfl, hD4, fun H5 p as S5 np nas pas hp prd => ?_⟩
          refine ⟨p, rfl, ⟨_, SqL.of hp⟩, fun C nC => ?_⟩
          refine lc_list (K := K) (a := p) (xs := as.map V.ref) (fun i H6 => Same H5 H6 ∧ H6 C = some (.lst ((((dd s).take i).map fun n => n * ((s.countP fun z => z == n : Nat) : Int)).map V.int))) ⟨same_new (Same.refl H5) nC, upd_same⟩ (fun i H6 _ hP => SqL.of (hP.1 _ _ hp)) (fun i u H6 hi hP => ?_) (fun H6 hP => ?_)
          · obtain ⟨S6, hC⟩ := hP
            rw [List.getElem?_map] at hi
            cases ea : as[i]? with
            | none => rw [ea] at hi; cases hi
            | some x =>
              rw [ea] at hi
              cases hi
              obtain ⟨y, hy, hx⟩ := LiI.paired_get prd ea
              unfold ikm at hy
              rw [List.getElem?_map] at hy
              cases ed : (dd s)[i]? with
              | none => rw [ed] at hy; cases hy
              | some n =>
                rw [ed] at hy
                cases hy
                have il := (List.getElem?_eq_some_iff.mp ed).1
                refine ⟨x, _, rfl, SqT.of (S6 _ _ hx), rfl, _, _, rfl, _, _, rfl, rfl, rfl, _, rfl, _, rfl, n, ((s.countP fun z => z == n : Nat) : Int), rfl, rfl, .inr ⟨by omega, by have := cle n; omega⟩, ?_⟩
                refine ⟨_, hC, by rw [List.length_map, List.length_map, List.length_take]; exact szM (by omega), same_put S6 nC, ?_⟩
                rw [upd_same, List.take_add_one, ed, List.map_append, List.map_append]
                rfl
          · obtain ⟨S6, hC⟩ := hP
            have la : as.length = (dd s).length := by
              rw [Paired.length prd, ikm_len]
            rw [List.length_map, la, List.take_length] at hC
            refine ⟨C, _, rfl, SqL.of hC, _, rfl, .ref t, pl, ts, rfl, Dt.keep (TK.of (Same.trans S5 S6)) hd4, fine, fun H7 S7 => ⟨rfl, _, rfl, ?_⟩⟩
            rw [c2]
            rw [show (!decide (V.int (totOf pl ts) = V.int (totOf pl ts))) = false by simp]
            exact iteF ⟨rfl, (Same.trans S5 S6).trans S7⟩
        · obtain ⟨rfl, S5⟩ := hM
          have hD5 := S5 _ _ hD4
          have hd5 := Dt.keep (TK.of S5) hd4
          have S25 := S24.trans S5
          -- some lengths
          refine ⟨fun σ' H' => ∃ x4, σ' = [some (.ref t), some (.ref D), some (.ref L), some (.int (pl.length : Nat)), x4, none] ∧ Same H5 H', ?_, fun σ' H6 hM => ?_⟩
          · refine ⟨_, rfl, D, _, rfl, .inl hD5, fun p1 np1 => ?_⟩
            rw [ikm_keys]
            have U1 := same_new (o := .lst ((dd s).map V.int)) (Same.refl H5) np1
            refine ⟨4, rfl, p1, _, rfl, SqL.of upd_same, fun p2 np2 => ?_⟩
            generalize hc1 : cutV ((dd s).map V.int) none (some 4) = cs1
            have U2 := same_new (o := .lst cs1) U1 np2
            have hp2 : (upd (upd H5 p1 (.lst ((dd s).map V.int))) p2 (.lst cs1)) p2 = some (.lst cs1) := upd_same
            generalize upd (upd H5 p1 (.lst ((dd s).map V.int))) p2 (.lst cs1) = H6 at U2 hp2
            refine ⟨_, rfl, D, _, rfl, .inl (U2 _ _ hD5), fun p3 np3 => ?_⟩
            rw [ikm_keys]
            refine ⟨2, rfl, -2, rfl, p3, _, rfl, SqL.of upd_same, fun p4 np4 => ?_⟩
            generalize hc2 : cutV ((dd s).map V.int) (some (-2)) none = cs2
            have U3 := same_new (o := .lst cs2) (same_new (o := .lst ((dd s).map V.int)) U2 np3) np4
            have hp24 : (upd (upd H6 p3 (.lst ((dd s).map V.int))) p4 (.lst cs2)) p2 = some (.lst cs1) := same_new (o := .lst cs2) (same_new (o := .lst ((dd s).map V.int)) (Same.refl H6) np3) np4 _ _ hp2
            have hp4 : (upd (upd H6 p3 (.lst ((dd s).map V.int))) p4 (.lst cs2)) p4 = some (.lst cs2) := upd_same
            generalize upd (upd H6 p3 (.lst ((dd s).map V.int))) p4 (.lst cs2) = H7 at U3 hp24 hp4
            have l1 : cs1.length ≤ 1000000 := by
              rw [← hc1]
              have := cutV_length ((dd s).map V.int) none (some 4)
              rw [List.length_map] at this
              omega
            have l2 : cs2.length ≤ 1000000 := by
              rw [← hc2]
              have := cutV_length ((dd s).map V.int) (some (-2)) none
              rw [List.length_map] at this
              omega
            refine ⟨p2, p4, _, _, rfl, rfl, hp24, hp4, Nat.le_of_lt (szM (by omega)), fun p5 np5 => ?_⟩
            have ok : ∀ v ∈ cs1 ++ cs2, ∃ n : Int, v = .int n ∧ n ∈ dd s := fun v hv => by
              have hm : v ∈ (dd s).map V.int := by
                rcases List.mem_append.mp hv with z | z
                · rw [← hc1] at z
                  exact List.mem_of_mem_drop (List.mem_of_mem_take z)
                · rw [← hc2] at z
                  exact List.mem_of_mem_drop (List.mem_of_mem_take z)
              obtain ⟨n, hn, e⟩ := List.mem_map.mp hm
              exact ⟨n, e.symm, hn⟩
            have U4 := same_new (o := .lst (cs1 ++ cs2)) U3 np5
            have hp5 : (upd H7 p5 (.lst (cs1 ++ cs2))) p5 = some (.lst (cs1 ++ cs2)) := upd_same
            generalize upd H7 p5 (.lst (cs1 ++ cs2)) = H8 at U4 hp5
            generalize cs1 ++ cs2 = cs at ok hp5
            refine ⟨p5, rfl, ⟨_, SqL.of hp5⟩, for_list (K := K) (a := p5) (xs := cs) (fun i σ' H' => ∃ x4, σ' = [some (.ref t), some (.ref D), some (.ref L), some (.int (pl.length : Nat)), x4, none] ∧ Same H8 H') ⟨_, rfl, Same.refl _⟩ (fun i σ' H' _ hP => by obtain ⟨_, _, sm⟩ := hP; exact SqL.of (sm _ _ hp5)) (fun i v σ' H' hi hP => ?_) (fun σ' H' hP => ?_)⟩
            · obtain ⟨x4, rfl, SM⟩ := hP
              obtain ⟨n, rfl, hn⟩ := ok v (List.mem_of_getElem? hi)
              have S9 := U4.trans SM
              refine ⟨_, rfl, _, rfl, .ref t, pl, ts, n, rfl, Dt.keep (TK.of S9) hd5, fine, fun H9 r S10 hr' => ?_⟩
              obtain ⟨u, xs, rfl, hu, hx⟩ := dt_tup hr' fun _ => ⟨.int _, List.mem_cons_self, fun l z => nomatch z⟩
              cases hx with
              | cons h1 hr2 =>
                cases h1
                have hD9 := (S9.trans S10) _ _ hD5
                have gv : DGet H9 D (.int n) (some (cntF s n)) := by
                  have := DGet.k (k := Sum.inl n) hD9
                  rw [ikm_val, if_pos hn] at this
                  exact this
                refine ⟨u, _, 0, _, rfl, rfl, SqT.of hu, atI_nat (j := 0) rfl, _, rfl, _, rfl, D, _, rfl, gv, rfl, _, rfl, ?_⟩
                have ec : ((lensOf pl ts).countP fun z => z == n) = s.countP fun z => z == n := (perm.countP_eq _).symm
                unfold cntF
                rw [ec]
                rw [show (!decide (V.int ((s.countP fun z => z == n : Nat) : Int) = V.int ((s.countP fun z => z == n : Nat) : Int))) = false by simp]
                exact iteF ⟨_, rfl, SM.trans S10⟩
            · obtain ⟨x4, rfl, SM⟩ := hP
              exact ⟨x4, rfl, U4.trans SM⟩
          · obtain ⟨x4, rfl, S6⟩ := hM
            have hD6 := S6 _ _ hD5
            refine ⟨_, rfl, D, _, rfl, .inl hD6, fun p1 np1 => ?_⟩
            rw [ikm_keys]
            refine ⟨(by show 1 ≤ sizeLine; decide), fun p2 np2 => ?_⟩
            have e01 : (dd s).map V.int ++ [V.int 0] = (dd s ++ [0]).map V.int := by rw [List.map_append]; rfl
            refine ⟨p1, p2, _, _, rfl, rfl, by rw [upd_ne (ne_of_none upd_same np2)]; exact upd_same, upd_same, by rw [List.length_map]; exact Nat.le_of_lt (szM (by simp; omega)), fun p3 np3 => ?_⟩
            rw [e01]
            refine ⟨p3, dd s ++ [0], rfl, SqL.of upd_same, by simp, fun m hm hle => ?_⟩
            have S7 := same_new (o := .lst ((dd s ++ [0]).map V.int)) (same_new (o := .lst [.int 0]) (same_new (o := .lst ((dd s).map V.int)) S6 np1) np2) np3
            refine ⟨_, rfl, .ref t, pl, ts, rfl, Dt.keep (TK.of S7) hd5, fine, fun H8 r S8 hr' => ?_⟩
            obtain ⟨u1, v1, ef⟩ := farD_len pl ts
            rw [ef] at hr'
            obtain ⟨u, xs, rfl, hu, hx⟩ := dt_tup hr' fun _ => ⟨.int _, List.mem_cons_self, fun l z => nomatch z⟩
            cases hx with
            | cons h1 hr2 =>
              cases h1
              refine ⟨u, _, 0, _, rfl, rfl, SqT.of hu, atI_nat (j := 0) rfl, ?_⟩
              obtain ⟨t1, t2⟩ := top_is fine
              have mem : ∀ y, y ∈ dd s ++ [0] ↔ y ∈ lensOf pl ts ++ [0] := fun y => by
                rw [List.mem_append, List.mem_append, dd_mem, perm.mem_iff]
              have em : m = topLen pl ts := Int.le_antisymm (t2 m ((mem m).mp hm)) (hle _ ((mem _).mpr t1))
              rw [em]
              refine ⟨rfl, ?_⟩
              rw [show decide (V.int (topLen pl ts) = V.int (topLen pl ts)) = true by simp]
              exact q _ (S25.trans (S7.trans S8) |> S12.trans)
end
end Far

namespace Far
open PySem PySem.Spec PyProof.Rows L2
open C8 (pss_cut tCut)
open SX (S)
theorem iteF' {A B : Prop} {b : Bool} (e : b = false) (h : B) : if b = true then A else B := by
  rw [e]
  exact iteF h
theorem iteT' {A B : Prop} {b : Bool} (e : b = true) (h : A) : if b = true then A else B := by
  rw [e]
  exact iteT h
theorem idx_at {pl : List Nm} (nd : pl.Nodup) {y : Nm} (hy : y ∈ pl) : (pl.map S)[pl.idxOf y]? = some (S y) ∧ ∀ i, i < pl.idxOf y → (pl.map S)[i]? ≠ some (S y) := by
  have h1 : pl.idxOf y < pl.length := List.idxOf_lt_length_of_mem hy
  have h2 : pl[pl.idxOf y] = y := List.getElem_idxOf h1
  refine ⟨by rw [List.getElem?_map, List.getElem?_eq_getElem h1, h2]; rfl, fun i hi h => ?_⟩
  rw [List.getElem?_map, List.getElem?_eq_getElem (by omega)] at h
  have h3 : pl[i] = y := SX.S_inj (Option.some.inj h)
  have := (List.getElem_inj nd).mp (h3.trans h2.symm)
  omega
theorem sum_idx {pl : List Nm} (f : Nm → Int) {y : Nm} (hy : y ∈ pl) : atI ((pl.map f).map V.int) ((pl.idxOf y : Nat) : Int) = some (.int (f y)) := by
  have h1 : pl.idxOf y < pl.length := List.idxOf_lt_length_of_mem hy
  have h2 : pl[pl.idxOf y] = y := List.getElem_idxOf h1
  refine atI_nat ?_
  rw [List.getElem?_map, List.getElem?_map, List.getElem?_eq_getElem h1, h2]
  rfl
theorem least_le {pl : List Nm} {ts : List Tie} {x : Nm} (h : x ∈ pl.filter fun x => sumOf pl ts x == leastN pl ts) {y : Nm} (hy : y ∈ pl) : sumOf pl ts x ≤ sumOf pl ts y := by
  obtain ⟨h1, h2⟩ := List.mem_filter.mp h
  have e : sumOf pl ts x = leastN pl ts := by simpa using h2
  rw [e]
  exact (mnG_in (l := pl.map (sumOf pl ts)) (fun z => by rw [List.map_eq_nil_iff] at z; rw [z] at h1; cases h1)).2 _ (List.mem_map.mpr ⟨y, hy, rfl⟩)
/-- at a place with the least sum no side has more than half -/
theorem half_side {pl : List Nm} {ts : List Tie} {a b : Nm} {k : Int} (h : IsTree pl ts) (ad : Adj ts a b k) : (sumOf pl ts a ≤ sumOf pl ts b → ¬ 2 * ((pl.length : Int) - (sidN ts a b pl : Int)) > (pl.length : Int)) ∧ (sumOf pl ts b ≤ sumOf pl ts a → ¬ 2 * ((pl.length : Int) - ((pl.length : Int) - (sidN ts a b pl : Int))) > (pl.length : Int)) := by
  have e := sums_differ h ad
  have k1 := (adj_in h ad).2.2
  generalize ((sidN ts a b pl : Nat) : Int) = s at *
  generalize (pl.length : Int) = n at *
  refine ⟨fun le c => ?_, fun le c => ?_⟩
  · have h1 : 0 < n - 2 * s := by omega
    have := Int.mul_pos (show (0 : Int) < k by omega) h1
    omega
  · have h1 : n - 2 * s < 0 := by omega
    have := Int.mul_neg_of_pos_of_neg (show (0 : Int) < k by omega) h1
    omega
abbrev s_law_sides_right : Stmt := topS 26
abbrev N_law_sides_right : List Str := ["tree", "places", "ties", "sums", "least", "one", "other", "length", "side", "more", "begin", "own"]
theorem sc_law_sides_right : FnScope N_law_sides_right ["tree"] (defScope s_law_sides_right) := ⟨rfl, rfl, rfl, by decide +kernel, rfl, by decide +kernel, by decide +kernel⟩
section
variable {P : Program} {w : World} {K : PySem.W.Frag} {mg : Str → Option Value} {base : Heap}
def spSidesR : Sp := fun vs H Q _ => ∃ (v : V) (pl : List Nm) (ts : List Tie), vs = [v] ∧ Dt H v (treeD pl ts) ∧ PlZ H v pl ∧ Fine pl ts ∧ ∀ H' : Hp, Same H H' → Q (.bl true) H'
theorem ok_sides {f : Addr} {fd : FuncData} (F : Fun K "_law_sides_right" "_law_sides_right" s_law_sides_right f fd) (T : TxtS17 mg) (Csums_from : Cal P w K mg base 4 "sums_from" spSums) (Cleast_sums : Cal P w K mg base 5 "least_sums" spLeast) (C_law_side : Cal P w K mg base 4 "_law_side" spSide) : FnOk P w K mg base CX0 6 f fd ["tree"] spSidesR := by
  refine F.ok sc_law_sides_right (fun vs H Q E h => ?_) (fun cdv A outer s0 H vs Q E hr h => ?_)
  · obtain ⟨v, pl, ts, rfl, _⟩ := h
    rfl
  · obtain ⟨v, pl, ts, rfl, hd, hz, fine, q⟩ := h
    obtain ⟨t, a, b, vs, rfl, ht, ha, hb, hA⟩ := dt_tree hd
    obtain ⟨t', a', b', o, et, ht', od, hfz⟩ := hz
    cases et
    rw [ht] at ht'
    cases ht'
    have pl1 := fine.len
    have nd := fine.tree.nodup
    refine ⟨_, (pss_cons (ps_asg (pv 0) (pg_tup rfl (pgs_cons (pg_name (i := 1) sc_law_sides_right.nd rfl (.inl rfl)) (pgs_cons (pg_name (i := 2) sc_law_sides_right.nd rfl (.inl rfl)) pgs_nil))))
      (pss_cons (ps_set (i := 3) sc_law_sides_right.nd rfl (.inl rfl) (pe_c Csums_from hr (by decide) rfl (pa_cons (pv 0) pa_nil)))
      (pss_cons (ps_set (i := 4) sc_law_sides_right.nd rfl (.inl rfl) (pe_c Cleast_sums hr (by decide) rfl (pa_cons (pv 0) pa_nil)))
      (pss_cut (ps_for PassesOwn.never rfl (pi_tup (pv 2)) (pg_tup rfl (pgs_cons (pg_name (i := 5) sc_law_sides_right.nd rfl (.inl rfl)) (pgs_cons (pg_name (i := 6) sc_law_sides_right.nd rfl (.inl rfl)) (pgs_cons (pg_name (i := 7) sc_law_sides_right.nd rfl (.inl rfl)) pgs_nil))))
        (pss_cons (ps_set (i := 8) sc_law_sides_right.nd rfl (.inl rfl) (pe_c C_law_side hr (by decide) rfl (pa_cons (pv 0) (pa_cons (pv 5) (pa_cons (pv 6) pa_nil)))))
        (pss_cons (ps_set (i := 9) sc_law_sides_right.nd rfl (.inl rfl) (pe_op op_sub (pe_ix ix_tup (pv 3) (pe_ixZ (pv 1) (pv 5)) (fun _ _ => rfl)) (pe_ix ix_tup (pv 3) (pe_ixZ (pv 1) (pv 6)) (fun _ _ => rfl))))
        (pss_cut (ps_if (pt_cmpR op_ne (pv 9) (pe_op op_mul (pv 7) (pe_op op_sub (pe_callB call_len_seq (by rfl) T.len bt_len (pa_cons (pv 1) pa_nil)) (pe_op op_mul pe_int (pv 8)))) (nomark _))
          (pss_one (ps_ret pe_bl))
          pss_nil)
        (pss_one (ps_for PassesOwn.never rfl (pi_tup (pe_tup (pa_cons (pe_tup (pa_cons (pv 5) (pa_cons (pv 8) pa_nil))) (pa_cons (pe_tup (pa_cons (pv 6) (pa_cons (pe_op op_sub (pe_callB call_len_seq (by rfl) T.len bt_len (pa_cons (pv 1) pa_nil)) (pv 8)) pa_nil))) pa_nil)))) (pg_tup rfl (pgs_cons (pg_name (i := 10) sc_law_sides_right.nd rfl (.inl rfl)) (pgs_cons (pg_name (i := 11) sc_law_sides_right.nd rfl (.inl rfl)) pgs_nil)))
          (pss_one (ps_if (PW.pt (pw_and (pt_cmpR op_in_seq (pv 10) (pv 4) rfl) (pw_and1 (pt_cmpR op_gt (pe_op op_mul pe_int (pe_op op_sub (pe_callB call_len_seq (by rfl) T.len bt_len (pa_cons (pv 1) pa_nil)) (pv 11))) (pe_callB call_len_seq (by rfl) T.len bt_len (pa_cons (pv 1) pa_nil)) (nomark _)))))
            (pss_one (ps_ret pe_bl))
            pss_nil))))))))
      (pss_one (ps_ret pe_bl)))))), ?_⟩
    refine ⟨_, rfl, t, _, rfl, SqT.of ht, rfl, _, _, rfl, _, _, rfl, rfl, ?_⟩
    refine ⟨_, rfl, .ref t, pl, ts, rfl, hd, fine, fun H1 L S1 nL hL => ?_⟩
    refine ⟨_, rfl, .ref t, pl, ts, rfl, Dt.keep (TK.of S1) hd, fine, fun H2 r S2 hr2 => ?_⟩
    obtain ⟨g, rfl, hg⟩ := dt_names hr2
    have S12 := S1.trans S2
    have hL2 := S2 _ _ hL
    have en : ((pl.map S).map V.str).length = pl.length := by rw [List.length_map, List.length_map]
    refine ⟨fun σ' H' => Same H H', ?_, fun σ' H' hM => q _ hM⟩
    refine ⟨_, rfl, b, rfl, ⟨_, SqT.of (S12 _ _ hb)⟩, for_tup (K := K) (a := b) (xs := vs) (fun i σ' H' => (∃ x5 x6 x7 x8 x9 x10 x11, σ' = [some (.ref t), some (.ref a), some (.ref b), some (.ref L), some (.ref g), x5, x6, x7, x8, x9, x10, x11]) ∧ Same H2 H') ⟨⟨_, _, _, _, _, _, _, rfl⟩, Same.refl _⟩ (fun i σ' H' _ hP => SqT.of ((S12.trans hP.2) _ _ hb)) (fun i x σ' H' hi hP => ?_) (fun σ' H' hP => S12.trans hP.2)⟩
    obtain ⟨⟨x5, x6, x7, x8, x9, x10, x11, rfl⟩, SM⟩ := hP
    have S3 := S12.trans SM
    obtain ⟨dd', hdd, hx⟩ := DtAll.get (DtAll.keep (TK.of S3) hA) hi
    rw [List.getElem?_map] at hdd
    cases ee : ts[i]? with
    | none => rw [ee] at hdd; cases hdd
    | some e =>
      rw [ee] at hdd
      cases hdd
      obtain ⟨u, rfl, hu⟩ := dt_tie hx
      have em := List.mem_of_getElem? ee
      obtain ⟨i1, i2, k1, k2⟩ := fine.tree.ties e em
      have ad : Adj ts e.1 e.2.1 e.2.2 := .inl em
      refine ⟨u, _, rfl, SqT.of hu, rfl, _, _, rfl, _, _, rfl, _, _, rfl, rfl, ?_⟩
      refine ⟨_, rfl, _, rfl, _, rfl, .ref t, pl, ts, e.1, e.2.1, rfl, Dt.keep (TK.of S3) hd, fine, i1, i2, fun H4 S4 => ?_⟩
      have S5 := S3.trans S4
      have hL4 := (SM.trans S4) _ _ hL2
      have hfz4 := S5 _ _ hfz
      obtain ⟨j1, j2⟩ := idx_at nd i1
      obtain ⟨j3, j4⟩ := idx_at nd i2
      refine ⟨_, rfl, _, rfl, a, pl.map S, o, rfl, od, hfz4, _, rfl, rfl, S e.1, pl.idxOf e.1, rfl, j1, j2, L, _, _, _, rfl, rfl, SqT.of hL4, sum_idx _ i1, ?_⟩
      refine ⟨_, rfl, _, rfl, a, pl.map S, o, rfl, od, hfz4, _, rfl, rfl, S e.2.1, pl.idxOf e.2.1, rfl, j3, j4, L, _, _, _, rfl, rfl, SqT.of hL4, sum_idx _ i2, _, _, rfl, rfl, ?_⟩
      have sle := sidN_le ts e.1 e.2.1 pl
      have ha4 := ha.same S5
      obtain ⟨hs1, hs2⟩ := half_side fine.tree ad
      refine ⟨fun σ' H' => σ' = [some (.ref t), some (.ref a), some (.ref b), some (.ref L), some (.ref g), some (.str (S e.1)), some (.str (S e.2.1)), some (.int e.2.2), some (.int (sidN ts e.1 e.2.1 pl : Nat)), some (.int (sumOf pl ts e.1 - sumOf pl ts e.2.1)), x10, x11] ∧ H' = H4, ?_, fun σ' H' hM => ?_⟩
      · refine ⟨_, rfl, _, rfl, _, rfl, a, _, rfl, .inr ha4.sq, _, rfl, _, _, rfl, rfl, .inl ⟨by decide, by decide⟩, _, _, rfl, rfl, _, _, rfl, rfl, .inl ⟨by omega, by omega⟩, rfl, _, rfl, ?_⟩
        have cnd : (!decide (V.int (sumOf pl ts e.1 - sumOf pl ts e.2.1) = V.int (e.2.2 * ((((pl.map S).map V.str).length : Int) - 2 * ((sidN ts e.1 e.2.1 pl : Nat) : Int))))) = false := by
          rw [en, sums_differ fine.tree ad]
          simp
        exact iteF' cnd ⟨rfl, rfl⟩
      · obtain ⟨rfl, rfl⟩ := hM
        refine ⟨_, rfl, _, rfl, (by show 2 ≤ sizeLine; decide), fun q1 n1 => ?_⟩
        have W1 := same_new (o := .tup [.str (S e.1), .int (sidN ts e.1 e.2.1 pl : Nat)]) (Same.refl H') n1
        refine ⟨_, rfl, _, rfl, a, _, rfl, .inr (ha4.same W1).sq, _, rfl, _, _, rfl, rfl, (by show 2 ≤ sizeLine; decide), fun q2 n2 => ⟨(by show 2 ≤ sizeLine; decide), fun q3 n3 => ?_⟩⟩
        have W3 := same_new (o := .tup [.ref q1, .ref q2]) (same_new (o := .tup [.str (S e.2.1), .int ((((pl.map S).map V.str).length : Int) - (sidN ts e.1 e.2.1 pl : Nat))]) W1 n2) n3
        have h3 : (upd (upd (upd H' q1 (.tup [.str (S e.1), .int (sidN ts e.1 e.2.1 pl : Nat)])) q2 (.tup [.str (S e.2.1), .int ((((pl.map S).map V.str).length : Int) - (sidN ts e.1 e.2.1 pl : Nat))])) q3 (.tup [.ref q1, .ref q2])) q3 = some (.tup [.ref q1, .ref q2]) := upd_same
        have h2 : (upd (upd (upd H' q1 (.tup [.str (S e.1), .int (sidN ts e.1 e.2.1 pl : Nat)])) q2 (.tup [.str (S e.2.1), .int ((((pl.map S).map V.str).length : Int) - (sidN ts e.1 e.2.1 pl : Nat))])) q3 (.tup [.ref q1, .ref q2])) q2 = some (.tup [.str (S e.2.1), .int ((((pl.map S).map V.str).length : Int) - (sidN ts e.1 e.2.1 pl : Nat))]) := (TK.new n3).tup _ _ upd_same
        have h1 : (upd (upd (upd H' q1 (.tup [.str (S e.1), .int (sidN ts e.1 e.2.1 pl : Nat)])) q2 (.tup [.str (S e.2.1), .int ((((pl.map S).map V.str).length : Int) - (sidN ts e.1 e.2.1 pl : Nat))])) q3 (.tup [.ref q1, .ref q2])) q1 = some (.tup [.str (S e.1), .int (sidN ts e.1 e.2.1 pl : Nat)]) := ((TK.new n2).trans (TK.new n3)).tup _ _ upd_same
        generalize upd (upd (upd H' q1 (.tup [.str (S e.1), .int (sidN ts e.1 e.2.1 pl : Nat)])) q2 (.tup [.str (S e.2.1), .int ((((pl.map S).map V.str).length : Int) - (sidN ts e.1 e.2.1 pl : Nat))])) q3 (.tup [.ref q1, .ref q2]) = H5 at W3 h1 h2 h3
        refine ⟨q3, rfl, ⟨_, SqT.of h3⟩, for_tup (K := K) (a := q3) (xs := [.ref q1, .ref q2]) (fun m σ' H' => (∃ x10 x11, σ' = [some (.ref t), some (.ref a), some (.ref b), some (.ref L), some (.ref g), some (.str (S e.1)), some (.str (S e.2.1)), some (.int e.2.2), some (.int (sidN ts e.1 e.2.1 pl : Nat)), some (.int (sumOf pl ts e.1 - sumOf pl ts e.2.1)), x10, x11]) ∧ Same H5 H') ⟨⟨_, _, rfl⟩, Same.refl _⟩ (fun m σ' H6 _ hP => SqT.of (hP.2 _ _ h3)) (fun m x σ' H6 hi hP => ?_) (fun σ' H6 hP => ?_)⟩
        · obtain ⟨⟨x10, x11, rfl⟩, S6⟩ := hP
          obtain ⟨y, bg, ow, rfl, hy, cond⟩ : ∃ (y : Addr) (bg : Nm) (ow : Int), x = .ref y ∧ H6 y = some (.tup [.str (S bg), .int ow]) ∧ (bg ∈ (pl.filter fun x => sumOf pl ts x == leastN pl ts) → ¬ 2 * ((pl.length : Int) - ow) > (pl.length : Int)) := by
            match m, hi with
            | 0, hi =>
              cases hi
              exact ⟨q1, e.1, _, rfl, S6 _ _ h1, fun z => hs1 (least_le z i2)⟩
            | 1, hi =>
              cases hi
              exact ⟨q2, e.2.1, _, rfl, S6 _ _ h2, fun z => by rw [en]; exact hs2 (least_le z i1)⟩
          have S7 := ((SM.trans S4).trans W3).trans S6
          have hg7 := hg.same S7
          have ha7 := ha4.same (W3.trans S6)
          refine ⟨y, _, rfl, SqT.of hy, rfl, _, _, rfl, _, _, rfl, rfl, ?_⟩
          refine ⟨_, rfl, _, rfl, g, _, rfl, .inr hg7.sq, rfl, flat_strs _, _, rfl, ?_⟩
          rw [inV_strs]
          refine ite2 (fun z => ?_) (fun z => ?_)
          · have z := of_decide_eq_true z
            refine ⟨_, rfl, a, _, rfl, .inr ha7.sq, _, rfl, _, _, rfl, rfl, _, _, rfl, rfl, .inl ⟨by decide, by decide⟩, _, rfl, a, _, rfl, .inr ha7.sq, _, _, rfl, rfl, _, rfl, ?_⟩
            rw [en, decide_eq_false (cond z)]
            exact iteF ⟨⟨_, _, rfl⟩, S6⟩
          · exact iteF ⟨⟨_, _, rfl⟩, S6⟩
        · obtain ⟨⟨x10, x11, rfl⟩, S6⟩ := hP
          exact ⟨⟨_, _, _, _, _, _, _, rfl⟩, ((SM.trans S4).trans W3).trans S6⟩
end
end Far

namespace Far
open PySem PySem.Spec PyProof.Rows L2
open SX (S)
theorem names_dt {H : Hp} {q : Addr} {ls : List Nm} (h : TupAt H q ((ls.map S).map V.str)) (ne : ls ≠ []) : Dt H (.ref q) (.tuple (ls.map strD)) := h.elim (fun h => .tup h (dt_strs H ls)) fun ⟨o, d, h⟩ => .tupZ rfl ne d h
theorem names_dt0 {H : Hp} {q : Addr} {ls : List Nm} (h : H q = some (.tup ((ls.map S).map V.str))) : Dt H (.ref q) (.tuple (ls.map strD)) := .tup h (dt_strs H ls)
theorem cat_any {K : PySem.W.Frag} {H : Hp} {a b : Addr} {xs ys : List V} {Q : VK} (ha : TupAt H a xs) (hb : TupAt H b ys) (l : xs.length + ys.length ≤ sizeLine) (k : ∀ p H', Same H H' → TupAt H' p (xs ++ ys) → Q (.ref p) H') : rCatA K (.ref a) (.ref b) H Q :=
  ⟨a, b, xs, ys, rfl, rfl, ha.sq, hb.sq, l, fun e => k b H (Same.refl _) (by rw [e]; exact hb), fun _ e => k a H (Same.refl _) (by rw [e, List.append_nil]; exact ha), fun _ _ p n => k p _ (same_new (Same.refl _) n) (.inl upd_same)⟩
theorem cat_any0 {K : PySem.W.Frag} {H : Hp} {a b : Addr} {xs ys : List V} {Q : VK} (ha : H a = some (.tup xs)) (hb : H b = some (.tup ys)) (l : xs.length + ys.length ≤ sizeLine) (k : ∀ p H', Same H H' → H' p = some (.tup (xs ++ ys)) → Q (.ref p) H') : rCatA K (.ref a) (.ref b) H Q :=
  ⟨a, b, xs, ys, rfl, rfl, SqT.of ha, SqT.of hb, l, fun e => k b H (Same.refl _) (by rw [e]; exact hb), fun _ e => k a H (Same.refl _) (by rw [e, List.append_nil]; exact ha), fun _ _ p n => k p _ (same_new (Same.refl _) n) upd_same⟩
theorem DtAll.cut {H : Hp} : ∀ (k : Nat) {vs : List V} {ds : List PyData}, DtAll H vs ds → DtAll H (vs.take k) (ds.take k) ∧ DtAll H (vs.drop k) (ds.drop k)
  | 0, _, _, h => ⟨.nil, h⟩
  | k + 1, _, _, .nil => ⟨.nil, .nil⟩
  | k + 1, _, _, .cons a t => ⟨.cons a (DtAll.cut k t).1, (DtAll.cut k t).2⟩
theorem cut_to {xs : List V} {j : Nat} (h : j ≤ xs.length) : cutV xs none (some (j : Int)) = xs.take j := by
  unfold cutV
  rw [HT.sIx_none, show HT.sIx xs.length xs.length (some (j : Int)) = min j xs.length from HT.sIx_nat _ _ j, Nat.min_eq_left h, List.drop_zero, Nat.sub_zero]
theorem cut_from {xs : List V} {j : Nat} (h : j ≤ xs.length) : cutV xs (some (j : Int)) none = xs.drop j := by
  unfold cutV
  rw [HT.sIx_none, show HT.sIx xs.length 0 (some (j : Int)) = min j xs.length from HT.sIx_nat _ _ j, Nat.min_eq_left h]
  exact List.take_of_length_le (by rw [List.length_drop]; omega)
theorem cut_toN {n j : Nat} (h : j < n) : ¬ (HT.sIx n 0 none = 0 ∧ HT.sIx n n (some (j : Int)) = n) := fun z => by
  have e : HT.sIx n n (some (j : Int)) = min j n := HT.sIx_nat _ _ j
  have := z.2
  omega
theorem cut_fromN {n j : Nat} (h : 1 ≤ j) (hn : 1 ≤ n) : ¬ (HT.sIx n 0 (some (j : Int)) = 0 ∧ HT.sIx n n none = n) := fun z => by
  have e : HT.sIx n 0 (some (j : Int)) = min j n := HT.sIx_nat _ _ j
  have := z.1
  omega
theorem ties_lay : ∀ {ts : List Tie}, (∀ e ∈ ts, NameOk e.1 ∧ NameOk e.2.1) → PyData.canLayAll0 (ts.map tieD) = true ∧ PyData.depthAll (ts.map tieD) ≤ 1
  | [], _ => ⟨rfl, Nat.zero_le _⟩
  | e :: r, h => by
    obtain ⟨h1, h2⟩ := h e (List.mem_cons_self ..)
    obtain ⟨i1, i2⟩ := ties_lay (ts := r) fun y hy => h y (List.mem_cons_of_mem _ hy)
    constructor
    · show ((PyData.strOk (S e.1) && (PyData.strOk (S e.2.1) && (true && true))) && PyData.canLayAll0 (r.map tieD)) = true
      rw [strOk_S h1, strOk_S h2, i1]
      rfl
    · show max (max 0 (max 0 (max 0 0)) + 1) (PyData.depthAll (r.map tieD)) ≤ 1
      omega
theorem ties_shaped {ts : List Tie} (h : ∀ e ∈ ts, NameOk e.1 ∧ NameOk e.2.1) : SeqAt.shaped (.tuple (ts.map tieD)) = true := by
  obtain ⟨c, e⟩ := ties_lay h
  show (PyData.canLayAll0 (ts.map tieD) && decide (PyData.depthAll (ts.map tieD) + 1 ≤ 64)) = true
  rw [c, decide_eq_true (by omega)]
  rfl
end Far

namespace Far
open PySem PySem.Spec PyProof.Rows L2
open C8 (pss_cut tCut)
open SX (S)
structure TxtC17 (mg : Str → Option Value) : Prop where
  len : mg "len" = none
  list : mg "list" = none
theorem SeedAt.same {H H' : Hp} {d : Addr} {n : Nat} (h : SeedAt H d n) (s : Same H H') : SeedAt H' d n := by
  obtain ⟨a, f, k, m, h1, h2⟩ := h
  exact ⟨a, f, k, m, s _ _ h1, h2⟩
abbrev s_law_changed_right : Stmt := topS 27
abbrev N_law_changed_right : List Str := ["seed", "tree", "places", "ties", "at", "one", "other", "length", "more", "new", "changed", "side", "rise", "name", "spot", "longer", "due"]
theorem sc_law_changed_right : FnScope N_law_changed_right ["seed", "tree"] (defScope s_law_changed_right) := ⟨rfl, rfl, rfl, by decide +kernel, rfl, by decide +kernel, by decide +kernel⟩
section
variable {P : Program} {w : World} {K : PySem.W.Frag} {mg : Str → Option Value} {base : Heap}
def spChg : Sp := fun vs H Q _ => ∃ (d : Addr) (n : Nat) (v : V) (pl : List Nm) (ts : List Tie), vs = [.ref d, v] ∧ SeedAt H d n ∧ n < 60000 ∧ Dt H v (treeD pl ts) ∧ Fine pl ts ∧ pl.length ≤ 30 ∧ ∀ H' : Hp, SmX d H H' → SeedAt H' d (n + 100) → Q (.bl true) H'
theorem ok_changed {f : Addr} {fd : FuncData} (F : Fun K "_law_changed_right" "_law_changed_right" s_law_changed_right f fd) (T : TxtC17 mg) (C_law_draw : Cal P w K mg base 1 "_law_draw" spDraw) (C_law_name : Cal P w K mg base 2 "_law_name" spName) (Csums_from : Cal P w K mg base 4 "sums_from" spSums) (Ctotal_of : Cal P w K mg base 5 "total_of" spTotal) (C_law_side : Cal P w K mg base 4 "_law_side" spSide) : FnOk P w K mg base CX0 6 f fd ["seed", "tree"] spChg := by
  refine F.ok sc_law_changed_right (fun vs H Q E h => ?_) (fun cdv A outer s0 H vs Q E hr h => ?_)
  · obtain ⟨d, n, v, pl, ts, rfl, _⟩ := h
    rfl
  · obtain ⟨d, n, v, pl, ts, rfl, D0, hn, hd, fine, p30, q⟩ := h
    obtain ⟨t, a, b, vs, rfl, ht, ha, hb, hA⟩ := dt_tree hd
    have tl := fine.tree.len
    have vl : vs.length = ts.length := by
      have := DtAll.len hA
      rwa [List.length_map] at this
    have en : ((pl.map S).map V.str).length = pl.length := by rw [List.length_map, List.length_map]
    refine ⟨_, (pss_cons (ps_asg (pv 1) (pg_tup rfl (pgs_cons (pg_name (i := 2) sc_law_changed_right.nd rfl (.inl rfl)) (pgs_cons (pg_name (i := 3) sc_law_changed_right.nd rfl (.inl rfl)) pgs_nil))))
      (pss_cut (ps_if (pt_cmpR (op_eqD (hd_of hr (by decide))) (pv 3) (pe_tup pa_nil) (nomark _))
        (pss_one (ps_ret pe_bl))
        pss_nil)
      (pss_cons (ps_set (i := 4) sc_law_changed_right.nd rfl (.inl rfl) (pe_c C_law_draw hr (by decide) rfl (pa_cons (pv 0) (pa_cons (pe_callB call_len_seq (by rfl) T.len bt_len (pa_cons (pv 3) pa_nil)) pa_nil))))
      (pss_cons (ps_asg (pe_ix ix_tup (pv 3) (pv 4) (fun _ _ => rfl)) (pg_tup rfl (pgs_cons (pg_name (i := 5) sc_law_changed_right.nd rfl (.inl rfl)) (pgs_cons (pg_name (i := 6) sc_law_changed_right.nd rfl (.inl rfl)) (pgs_cons (pg_name (i := 7) sc_law_changed_right.nd rfl (.inl rfl)) pgs_nil)))))
      (pss_cons (ps_set (i := 8) sc_law_changed_right.nd rfl (.inl rfl) (pe_op op_add pe_int (pe_c C_law_draw hr (by decide) rfl (pa_cons (pv 0) (pa_cons pe_int pa_nil)))))
      (pss_cut (ps_if (pt_cmpR op_le (pe_op op_add (pv 7) (pv 8)) (pe_op op_pow pe_int pe_int) (nomark _))
        (pss_cons (ps_set (i := 9) sc_law_changed_right.nd rfl (.inl rfl) (pe_tup (pa_cons (pe_tup (pa_cons (pv 5) (pa_cons (pv 6) (pa_cons (pe_op op_add (pv 7) (pv 8)) pa_nil)))) pa_nil)))
        (pss_cons (ps_set (i := 10) sc_law_changed_right.nd rfl (.inl rfl) (pe_tup (pa_cons (pv 2) (pa_cons (pe_op op_catA (pe_op op_catA (pe_slice sl_tup (pv 3) po_none (po_some (pv 4))) (pv 9)) (pe_slice sl_tup (pv 3) (po_some (pe_op op_add (pv 4) pe_int)) po_none)) pa_nil))))
        (pss_cons (ps_set (i := 11) sc_law_changed_right.nd rfl (.inl rfl) (pe_c C_law_side hr (by decide) rfl (pa_cons (pv 1) (pa_cons (pv 5) (pa_cons (pv 6) pa_nil)))))
        (pss_cons (ps_set (i := 12) sc_law_changed_right.nd rfl (.inl rfl) (pe_op op_sub (pe_c Ctotal_of hr (by decide) rfl (pa_cons (pv 10) pa_nil)) (pe_c Ctotal_of hr (by decide) rfl (pa_cons (pv 1) pa_nil))))
        (pss_one (ps_if (pt_cmpR op_ne (pv 12) (pe_op op_mul (pe_op op_mul (pv 8) (pv 11)) (pe_op op_sub (pe_callB call_len_seq (by rfl) T.len bt_len (pa_cons (pv 2) pa_nil)) (pv 11))) (nomark _))
          (pss_one (ps_ret pe_bl))
          pss_nil))))))
        pss_nil)
      (pss_cut (ps_if (pt_cmpR op_gt (pe_callB call_len_seq (by rfl) T.len bt_len (pa_cons (pv 2) pa_nil)) pe_int (nomark _))
        (pss_one (ps_ret pe_bl))
        pss_nil)
      (pss_cons (ps_set (i := 13) sc_law_changed_right.nd rfl (.inl rfl) (pe_c C_law_name hr (by decide) rfl (pa_cons (pv 0) (pa_cons (pe_callTy call_list_of (by rfl) T.list bt_list (pa_cons (pv 2) pa_nil)) pa_nil))))
      (pss_cons (ps_set (i := 14) sc_law_changed_right.nd rfl (.inl rfl) (pe_c C_law_draw hr (by decide) rfl (pa_cons (pv 0) (pa_cons (pe_callB call_len_seq (by rfl) T.len bt_len (pa_cons (pv 2) pa_nil)) pa_nil))))
      (pss_cons (ps_set (i := 15) sc_law_changed_right.nd rfl (.inl rfl) (pe_tup (pa_cons (pe_op op_catA (pv 2) (pe_tup (pa_cons (pv 13) pa_nil))) (pa_cons (pe_op op_catA (pv 3) (pe_tup (pa_cons (pe_tup (pa_cons (pe_ix ix_tup (pv 2) (pv 14) (fun _ _ => rfl)) (pa_cons (pv 13) (pa_cons (pv 8) pa_nil)))) pa_nil))) pa_nil))))
      (pss_cons (ps_set (i := 16) sc_law_changed_right.nd rfl (.inl rfl) (pe_op op_add (pe_ix ix_tup (pe_c Csums_from hr (by decide) rfl (pa_cons (pv 1) pa_nil)) (pv 14) (fun _ _ => rfl)) (pe_op op_mul (pv 8) (pe_callB call_len_seq (by rfl) T.len bt_len (pa_cons (pv 2) pa_nil)))))
      (pss_one (ps_ret (pe_and (pe_cmpR op_eq (pe_ix ix_tup (pe_c Csums_from hr (by decide) rfl (pa_cons (pv 15) pa_nil)) (pe_un un_neg pe_int) (fun _ _ => rfl)) (pv 16) (nomark _)) (pe_one (pe_cmpR op_eq (pe_c Ctotal_of hr (by decide) rfl (pa_cons (pv 15) pa_nil)) (pe_op op_add (pe_c Ctotal_of hr (by decide) rfl (pa_cons (pv 1) pa_nil)) (pv 16)) (nomark _))))))))))))))))), ?_⟩
    refine ⟨_, rfl, t, _, rfl, SqT.of ht, rfl, _, _, rfl, _, _, rfl, rfl, ?_⟩
    refine ⟨fun σ' H' => σ' = [some (.ref d), some (.ref t), some (.ref a), some (.ref b), none, none, none, none, none, none, none, none, none, none, none, none, none] ∧ Same H H' ∧ 0 < ts.length, ?_, fun σ' H1 hM => ?_⟩
    · refine ⟨_, rfl, Nat.zero_le _, fun p np => ?_⟩
      have S1 := same_new (o := .tup []) (Same.refl H) np
      refine ⟨.tuple (ts.map tieD), .tuple [], Dt.dp (Dt.keep (TK.of S1) (.tup hb hA)), .tup (.inl (.inl upd_same)) .nil, ties_shaped fun e he => fine.okT he, rfl, _, rfl, ?_⟩
      cases ts with
      | nil => exact iteT' rfl (q _ (fun b' o _ h => S1 b' o h) ((D0.same S1).mono (by omega)))
      | cons e r => exact iteF' rfl ⟨rfl, S1, by simp⟩
    · obtain ⟨rfl, S1, tpos⟩ := hM
      have D1 := D0.same S1
      have hb1 := S1 _ _ hb
      refine ⟨_, rfl, _, rfl, b, _, rfl, .inr (SqT.of hb1), d, n, _, rfl, D1, by omega, by omega, by omega, fun H2 r r0 r1 S2 D2 => ?_⟩
      have k2 : TK H H2 := (TK.of S1).trans (D1.tk S2)
      have SX2 : SmX d H H2 := fun b' o nb h => S2 b' o nb (S1 b' o h)
      obtain ⟨j, rfl⟩ : ∃ j : Nat, r = j := ⟨r.toNat, by omega⟩
      have jl : j < vs.length := by omega
      have hb2 := k2.tup _ _ hb
      have hA2 := DtAll.keep k2 hA
      have hw : vs[j]? = some vs[j] := List.getElem?_eq_getElem jl
      generalize vs[j] = wv at hw
      obtain ⟨dd', hdd, hx⟩ := DtAll.get hA2 hw
      rw [List.getElem?_map] at hdd
      cases ee : ts[j]? with
      | none => rw [ee] at hdd; cases hdd
      | some e =>
        rw [ee] at hdd
        cases hdd
        obtain ⟨u, rfl, hu⟩ := dt_tie hx
        have em := List.mem_of_getElem? ee
        obtain ⟨i1, i2, k1', k2'⟩ := fine.tree.ties e em
        refine ⟨_, rfl, _, rfl, b, _, (j : Int), .ref u, rfl, rfl, SqT.of hb2, atI_nat hw, u, _, rfl, SqT.of hu, rfl, _, _, rfl, _, _, rfl, _, _, rfl, rfl, ?_⟩
        refine ⟨_, rfl, d, n + 1, 9, rfl, D2, by omega, by decide, by decide, fun H3 m m0 m1 S3 D3 => ⟨_, _, rfl, rfl, ?_⟩⟩
        have k3 := k2.trans (D2.tk S3)
        have SX3 := SX2.trans S3
        obtain ⟨t1, t2, ets, lt1⟩ : ∃ t1 t2, ts = t1 ++ (e.1, e.2.1, e.2.2) :: t2 ∧ t1 = ts.take j ∧ t2 = ts.drop (j + 1) := by
          obtain ⟨hl, he'⟩ := List.getElem?_eq_some_iff.mp ee
          refine ⟨_, _, ?_, rfl, rfl⟩
          conv => lhs; rw [← List.take_append_drop j ts, List.drop_eq_getElem_cons hl, he']
        obtain ⟨et1, et2⟩ := lt1
        refine ⟨fun σ' H' => ∃ x9 x10 x11 x12, σ' = [some (.ref d), some (.ref t), some (.ref a), some (.ref b), some (.int (j : Int)), some (.str (S e.1)), some (.str (S e.2.1)), some (.int e.2.2), some (.int (1 + m)), x9, x10, x11, x12, none, none, none, none] ∧ SmX d H H' ∧ TK H H' ∧ SeedAt H' d (n + 2), ?_, fun σ' H4 hM => ?_⟩
        · refine ⟨_, rfl, _, rfl, _, _, rfl, rfl, _, _, rfl, rfl, ⟨by decide, by decide, by decide⟩, _, _, rfl, rfl, _, rfl, ?_⟩
          refine ite2 (fun z => ?_) (fun z => ?_)
          · have le6 : e.2.2 + (1 + m) ≤ 1000000 := of_decide_eq_true z
            have hb3 := k3.tup _ _ hb
            have hA3 := DtAll.keep k3 hA
            have ha3 : TupAt H3 a ((pl.map S).map V.str) := ha.elim (fun h => .inl (k3.tup _ _ h)) fun ⟨o, e, h⟩ => .inr ⟨o, e, k3.frz _ _ _ h⟩
            refine ⟨_, rfl, _, rfl, _, rfl, _, rfl, _, _, rfl, rfl, (by show 3 ≤ sizeLine; decide), fun g2 ng2 => ⟨(by show 1 ≤ sizeLine; decide), fun g3 ng3 => ?_⟩⟩
            have U2 := same_new (o := .tup [.ref g2]) (same_new (o := .tup [.str (S e.1), .str (S e.2.1), .int (e.2.2 + (1 + m))]) (Same.refl H3) ng2) ng3
            have hg2 : (upd (upd H3 g2 (.tup [.str (S e.1), .str (S e.2.1), .int (e.2.2 + (1 + m))])) g3 (.tup [.ref g2])) g2 = some (.tup [.str (S e.1), .str (S e.2.1), .int (e.2.2 + (1 + m))]) := (TK.new ng3).tup _ _ upd_same
            have hg3 : (upd (upd H3 g2 (.tup [.str (S e.1), .str (S e.2.1), .int (e.2.2 + (1 + m))])) g3 (.tup [.ref g2])) g3 = some (.tup [.ref g2]) := upd_same
            generalize upd (upd H3 g2 (.tup [.str (S e.1), .str (S e.2.1), .int (e.2.2 + (1 + m))])) g3 (.tup [.ref g2]) = H5 at U2 hg2 hg3
            refine ⟨_, rfl, _, rfl, _, rfl, (j : Int), rfl, b, vs, rfl, SqT.of (U2 _ _ hb3), cut_toN (by omega), fun q1 nq1 => ?_⟩
            rw [cut_to (by omega)]
            have U3 := same_new (o := .tup (vs.take j)) (Same.refl H5) nq1
            have hq1 : (upd H5 q1 (.tup (vs.take j))) q1 = some (.tup (vs.take j)) := upd_same
            generalize upd H5 q1 (.tup (vs.take j)) = H6 at U3 hq1
            refine ⟨_, rfl, ?_⟩
            refine cat_any0 (xs := vs.take j) (ys := [.ref g2]) hq1 (U3 _ _ hg3) (by rw [List.length_take]; exact sz_le (by simp; omega)) fun q2 H7 U4 hq2 => ?_
            have Ux := U2.trans (U3.trans U4)
            have ei' : ((j : Nat) : Int) + 1 = ((j + 1 : Nat) : Int) := by omega
            refine ⟨_, rfl, _, rfl, _, _, rfl, rfl, ((j + 1 : Nat) : Int), congrArg V.int ei', b, vs, rfl, SqT.of (Ux _ _ hb3), cut_fromN (by omega) (by omega), fun q3 nq3 => ?_⟩
            rw [cut_from (by omega)]
            have U5 := same_new (o := .tup (vs.drop (j + 1))) (Same.refl H7) nq3
            refine cat_any0 (xs := vs.take j ++ [.ref g2]) (ys := vs.drop (j + 1)) (U5 _ _ hq2) upd_same (by rw [List.length_append, List.length_take, List.length_drop]; exact sz_le (by simp; omega)) fun q4 H8 U6 hq4 => ?_
            have Uy := Ux.trans (U5.trans U6)
            refine ⟨(by show 2 ≤ sizeLine; decide), fun r nr => ?_⟩
            have Uz := same_new (o := .tup [.ref a, .ref q4]) Uy nr
            have hr9 : (upd H8 r (.tup [.ref a, .ref q4])) r = some (.tup [.ref a, .ref q4]) := upd_same
            have hq9 : (upd H8 r (.tup [.ref a, .ref q4])) q4 = some (.tup (vs.take j ++ [.ref g2] ++ vs.drop (j + 1))) := (TK.new nr).tup _ _ hq4
            have hg9 : (upd H8 r (.tup [.ref a, .ref q4])) g2 = some (.tup [.str (S e.1), .str (S e.2.1), .int (e.2.2 + (1 + m))]) := (same_new (o := .tup [.ref a, .ref q4]) (U3.trans (U4.trans (U5.trans U6))) nr) _ _ hg2
            generalize upd H8 r (.tup [.ref a, .ref q4]) = H9 at Uz hr9 hq9 hg9
            have it' : IsTree pl (t1 ++ (e.1, e.2.1, e.2.2 + (1 + m)) :: t2) := by
              have := fine.tree
              rw [ets] at this
              exact this.other (by omega) le6
            have fine' : Fine pl (t1 ++ (e.1, e.2.1, e.2.2 + (1 + m)) :: t2) := ⟨it', fine.ok, fine.len⟩
            have due : Dt H9 (.ref r) (treeD pl (t1 ++ (e.1, e.2.1, e.2.2 + (1 + m)) :: t2)) := by
              have hA9 := DtAll.keep (TK.of Uz) hA3
              refine .tup hr9 (.cons (names_dt (ha3.same Uz) fine.ne) (.cons (.tup hq9 ?_) .nil))
              rw [List.map_append, List.map_cons, List.append_assoc]
              refine DtAll.app ?_ (.cons (.tup hg9 (.cons (.str _) (.cons (.str _) (.cons (.int _) .nil)))) ?_)
              · rw [et1, List.map_take]
                exact (DtAll.cut j hA9).1
              · rw [et2, List.map_drop]
                exact (DtAll.cut (j + 1) hA9).2
            have hd9 := Dt.keep (k3.trans (TK.of Uz)) hd
            refine ⟨_, rfl, _, rfl, _, rfl, .ref t, pl, ts, e.1, e.2.1, rfl, hd9, fine, i1, i2, fun H10 S10 => ?_⟩
            refine ⟨_, rfl, .ref r, pl, _, rfl, Dt.keep (TK.of S10) due, fine', fun H11 S11 => ?_⟩
            refine ⟨_, rfl, .ref t, pl, ts, rfl, Dt.keep (TK.of (S10.trans S11)) hd9, fine, fun H12 S12 => ⟨_, _, rfl, rfl, ?_⟩⟩
            have Sw := Uz.trans ((S10.trans S11).trans S12)
            have sle := sidN_le ts e.1 e.2.1 pl
            have rise := total_longer (m := 1 + m) (ets ▸ fine.tree) (by omega) le6
            rw [← ets] at rise
            have cnd : (!decide (V.int (totOf pl (t1 ++ (e.1, e.2.1, e.2.2 + (1 + m)) :: t2) - totOf pl ts) = V.int ((1 + m) * ((sidN ts e.1 e.2.1 pl : Nat) : Int) * ((((pl.map S).map V.str).length : Int) - ((sidN ts e.1 e.2.1 pl : Nat) : Int))))) = false := by
              rw [en, rise]
              simp
            refine ⟨_, rfl, _, rfl, _, rfl, _, _, rfl, rfl, .inl ⟨by omega, by omega⟩, _, rfl, a, _, rfl, .inr (ha3.same Sw).sq, _, rfl, _, _, rfl, rfl, _, _, rfl, rfl, .inr ⟨by omega, by omega⟩, rfl, _, rfl, ?_⟩
            exact iteF' cnd ⟨_, _, _, _, rfl, fun b' o nb h => Sw b' o (SX3 b' o nb h), k3.trans (TK.of Sw), D3.same Sw⟩
          · exact ⟨_, _, _, _, rfl, SX3, k3, D3⟩
        · obtain ⟨x9, x10, x11, x12, rfl, SX4, k4, D4⟩ := hM
          have hd4 := Dt.keep k4 hd
          have ha4 : TupAt H4 a ((pl.map S).map V.str) := ha.elim (fun h => .inl (k4.tup _ _ h)) fun ⟨o, e, h⟩ => .inr ⟨o, e, k4.frz _ _ _ h⟩
          have hb4 := k4.tup _ _ hb
          refine ⟨fun σ' H' => σ' = [some (.ref d), some (.ref t), some (.ref a), some (.ref b), some (.int (j : Int)), some (.str (S e.1)), some (.str (S e.2.1)), some (.int e.2.2), some (.int (1 + m)), x9, x10, x11, x12, none, none, none, none] ∧ H' = H4 ∧ ¬ decide ((((pl.map S).map V.str).length : Int) > 29) = true, ?_, fun σ' H' hM => ?_⟩
          · refine ⟨_, rfl, a, _, rfl, .inr ha4.sq, _, _, rfl, rfl, _, rfl, ?_⟩
            refine ite2 (fun z => ?_) (fun z => ?_)
            · exact q _ SX4 (D4.mono (by omega))
            · exact ⟨rfl, rfl, z⟩
          · obtain ⟨rfl, rfl, z'⟩ := hM
            have l29 : ¬ ((((pl.map S).map V.str).length : Int) > 29) := of_decide_eq_false (by simpa using z')
            rw [en] at l29
            refine ⟨_, rfl, _, rfl, a, _, rfl, .inr ha4.sq, fun q1 nq1 => ?_⟩
            have n1d : q1 ≠ d := fun e => by
              obtain ⟨_, _, _, _, e', _⟩ := D4
              rw [e, e'] at nq1
              cases nq1
            refine ⟨d, q1, n + 2, pl, rfl, D4.new nq1, by omega, n1d, upd_same, by omega, fine.ok, fun H5 nm okn nin S5 D5 => ?_⟩
            have k5 : TK H' H5 := (TK.new nq1).trans ((D4.new nq1).tk S5)
            have ha5 : TupAt H5 a ((pl.map S).map V.str) := ha4.elim (fun h => .inl (k5.tup _ _ h)) fun ⟨o, e, h⟩ => .inr ⟨o, e, k5.frz _ _ _ h⟩
            refine ⟨_, rfl, _, rfl, a, _, rfl, .inr ha5.sq, ?_⟩
            refine ⟨d, n + 22, _, rfl, D5, by omega, by omega, by omega, fun H6 r r0 r1 S6 D6 => ?_⟩
            have k6 := k5.trans (D5.tk S6)
            have ha6 : TupAt H6 a ((pl.map S).map V.str) := ha4.elim (fun h => .inl (k6.tup _ _ h)) fun ⟨o, e, h⟩ => .inr ⟨o, e, k6.frz _ _ _ h⟩
            have hb6 := k6.tup _ _ hb4
            have hd6 := Dt.keep k6 hd4
            have hA6 := DtAll.keep (k4.trans k6) hA
            obtain ⟨i, rfl⟩ : ∃ i : Nat, r = i := ⟨r.toNat, by omega⟩
            have il : i < pl.length := by omega
            obtain ⟨x, hx⟩ : ∃ x, pl[i]? = some x := ⟨_, List.getElem?_eq_getElem il⟩
            have xin := List.mem_of_getElem? hx
            have hxv : ((pl.map S).map V.str)[i]? = some (.str (S x)) := by rw [List.getElem?_map, List.getElem?_map, hx]; rfl
            have hxs : ((pl.map (sumOf pl ts)).map V.int)[i]? = some (.int (sumOf pl ts x)) := by rw [List.getElem?_map, List.getElem?_map, hx]; rfl
            refine ⟨_, rfl, _, rfl, (by show 1 ≤ sizeLine; decide), fun g1 ng1 => ?_⟩
            have U1 := same_new (o := .tup [.str (S nm)]) (Same.refl H6) ng1
            have hg1 : (upd H6 g1 (.tup [.str (S nm)])) g1 = some (.tup [.str (S nm)]) := upd_same
            generalize upd H6 g1 (.tup [.str (S nm)]) = H7 at U1 hg1
            refine cat_any (xs := (pl.map S).map V.str) (ys := [.str (S nm)]) (ha6.same U1) (.inl hg1) (by rw [en]; exact sz_le (by simp; omega)) fun g2 H8 U2 hg2 => ?_
            have V2 := U1.trans U2
            refine ⟨_, rfl, _, rfl, _, rfl, a, _, (i : Int), .str (S x), rfl, rfl, (ha6.same V2).sq, atI_nat hxv, _, rfl, _, rfl, (by show 3 ≤ sizeLine; decide), fun g3 ng3 => ⟨(by show 1 ≤ sizeLine; decide), fun g4 ng4 => ?_⟩⟩
            have V4 := same_new (o := .tup [.ref g3]) (same_new (o := .tup [.str (S x), .str (S nm), .int (1 + m)]) V2 ng3) ng4
            have W4 := same_new (o := .tup [.ref g3]) (same_new (o := .tup [.str (S x), .str (S nm), .int (1 + m)]) (Same.refl H8) ng3) ng4
            have hg3 : (upd (upd H8 g3 (.tup [.str (S x), .str (S nm), .int (1 + m)])) g4 (.tup [.ref g3])) g3 = some (.tup [.str (S x), .str (S nm), .int (1 + m)]) := (TK.new ng4).tup _ _ upd_same
            have hg4 : (upd (upd H8 g3 (.tup [.str (S x), .str (S nm), .int (1 + m)])) g4 (.tup [.ref g3])) g4 = some (.tup [.ref g3]) := upd_same
            generalize upd (upd H8 g3 (.tup [.str (S x), .str (S nm), .int (1 + m)])) g4 (.tup [.ref g3]) = H9 at V4 W4 hg3 hg4
            refine cat_any0 (xs := vs) (ys := [.ref g3]) (V4 _ _ hb6) hg4 (by exact sz_le (by simp; omega)) fun g5 Ha U5 hg5 => ?_
            refine ⟨(by show 2 ≤ sizeLine; decide), fun g6 ng6 => ?_⟩
            have V6 := same_new (o := .tup [.ref g2, .ref g5]) (V4.trans U5) ng6
            have W6 := same_new (o := .tup [.ref g2, .ref g5]) (W4.trans U5) ng6
            have hg26 := hg2.same W6
            have hg36 := same_new (o := .tup [.ref g2, .ref g5]) U5 ng6 _ _ hg3
            have hg56 := same_new (o := .tup [.ref g2, .ref g5]) (Same.refl Ha) ng6 _ _ hg5
            have hg66 : (upd Ha g6 (.tup [.ref g2, .ref g5])) g6 = some (.tup [.ref g2, .ref g5]) := upd_same
            generalize upd Ha g6 (.tup [.ref g2, .ref g5]) = Hb at V6 hg26 hg36 hg56 hg66
            have itL := fine.tree.leaf (k := 1 + m) xin nin (by omega) (by omega)
            have fineL : Fine (pl ++ [nm]) (ts ++ [(x, nm, 1 + m)]) := ⟨itL, fun l hl => by
              rcases List.mem_append.mp hl with h | h
              · exact fine.ok l h
              · rw [List.mem_singleton.mp h]; exact okn, by rw [List.length_append, List.length_singleton]; omega⟩
            have hdb := Dt.keep (TK.of V6) hd6
            have hdL : Dt Hb (.ref g6) (treeD (pl ++ [nm]) (ts ++ [(x, nm, 1 + m)])) := by
              refine .tup hg66 (.cons (names_dt (ls := pl ++ [nm]) ?_ (by simp)) (.cons (.tup hg56 ?_) .nil))
              · rw [List.map_append, List.map_append]
                exact hg26
              · rw [List.map_append]
                exact DtAll.app (DtAll.keep (TK.of V6) hA6) (.cons (.tup hg36 (.cons (.str _) (.cons (.str _) (.cons (.int _) .nil)))) .nil)
            refine ⟨_, rfl, .ref t, pl, ts, rfl, hdb, fine, fun Hc q0 Sc nq0 hq0 => ?_⟩
            have Vc := V6.trans Sc
            refine ⟨_, rfl, q0, _, (i : Int), .int (sumOf pl ts x), rfl, rfl, SqT.of hq0, atI_nat hxs, _, rfl, _, rfl, a, _, rfl, .inr (ha6.same Vc).sq, _, _, rfl, rfl, .inl ⟨by omega, by omega⟩, _, _, rfl, rfl, ?_⟩
            refine ⟨_, rfl, .ref g6, _, _, rfl, Dt.keep (TK.of Sc) hdL, fineL, fun Hd q2 Sd nq2 hq2 => ?_⟩
            have sl : atI (((pl ++ [nm]).map (sumOf (pl ++ [nm]) (ts ++ [(x, nm, 1 + m)]))).map V.int) (-1) = some (.int (sumOf (pl ++ [nm]) (ts ++ [(x, nm, 1 + m)]) nm)) := by
              rw [List.map_append, List.map_append]
              exact atI_last _ _
            refine ⟨1, rfl, q2, _, -1, _, rfl, rfl, SqT.of hq2, sl, _, rfl, rfl, ?_⟩
            have e1 : decide (V.int (sumOf (pl ++ [nm]) (ts ++ [(x, nm, 1 + m)]) nm) = V.int (sumOf pl ts x + (1 + m) * (((pl.map S).map V.str).length : Int))) = true := by
              rw [en, sum_new fine.tree xin nin (by omega) (by omega)]
              simp
            refine ⟨_, rfl, iteT' e1 ?_⟩
            refine ⟨_, rfl, .ref g6, _, _, rfl, Dt.keep (TK.of (Sc.trans Sd)) hdL, fineL, fun He Se => ?_⟩
            refine ⟨_, rfl, .ref t, pl, ts, rfl, Dt.keep (TK.of ((Sc.trans Sd).trans Se)) hdb, fine, fun Hf Sf => ?_⟩
            refine ⟨_, rfl, _, _, rfl, rfl, rfl, ?_⟩
            have e2 : decide (V.int (totOf (pl ++ [nm]) (ts ++ [(x, nm, 1 + m)])) = V.int (totOf pl ts + (sumOf pl ts x + (1 + m) * (((pl.map S).map V.str).length : Int)))) = true := by
              rw [en, total_new fine.tree xin nin (by omega) (by omega)]
              simp
            show Q (.bl (decide (V.int (totOf (pl ++ [nm]) (ts ++ [(x, nm, 1 + m)])) = V.int (totOf pl ts + (sumOf pl ts x + (1 + m) * (((pl.map S).map V.str).length : Int)))))) _
            rw [e2]
            have Vf := V6.trans (((Sc.trans Sd).trans Se).trans Sf)
            refine q _ (fun b' o nb h => Vf b' o (S6 b' o nb (S5 b' o nb (same_new (Same.refl H') nq1 b' o (SX4 b' o nb h))))) ((D6.same Vf).mono (by omega))
end
end Far

namespace Far
open PySem PySem.Spec PyProof.Rows L2
open C8 (pss_cut tCut)
open SX (S)
abbrev s_law : Stmt := topS 28
abbrev N_law : List Str := ["script", "cell", "seed", "turn", "tree"]
theorem sc_law : FnScope N_law ["script"] (defScope s_law) := ⟨rfl, rfl, rfl, by decide +kernel, rfl, by decide +kernel, by decide +kernel⟩
section
variable {P : Program} {w : World} {K : PySem.W.Frag} {mg : Str → Option Value} {base : Heap}
theorem ok_law {f : Addr} {fd : FuncData} (F : Fun K "law" "law" s_law f fd) (T : TxtG mg) (C_law_folded : Cal P w K mg base 1 "_law_folded" (spFolded K)) (C_law_seed : Cal P w K mg base 1 "_law_seed" spSeed) (C_law_tree : Cal P w K mg base 3 "_law_tree" spTree)
    (C_law_together_right : Cal P w K mg base 6 "_law_together_right" spTogR) (C_law_sides_right : Cal P w K mg base 6 "_law_sides_right" spSidesR) (C_law_changed_right : Cal P w K mg base 6 "_law_changed_right" spChg) : FnOk P w K mg base CX0 7 f fd ["script"] (spLaw K) := by
  refine F.ok sc_law (fun vs H Q E h => ?_) (fun cdv A outer s H vs Q E hr h => ?_)
  · obtain ⟨a, ns, rfl, _⟩ := h
    rfl
  · obtain ⟨a, ns, rfl, hS, hl, q⟩ := h
    refine ⟨_, (pss_cut (ps_for PassesOwn.never rfl (pi_list (pe_op op_cat (pe_slice sl_list (pv 0) po_none (po_some pe_int)) (pe_lst (pa_cons (pe_c C_law_folded hr (by decide) rfl (pa_cons (pv 0) pa_nil)) pa_nil)))) (pg_name (i := 1) sc_law.nd rfl (.inl rfl))
        (pss_cons (ps_set (i := 2) sc_law.nd rfl (.inl rfl) (pe_c C_law_seed hr (by decide) rfl (pa_cons (pv 1) pa_nil)))
        (pss_one (ps_for PassesOwn.never rfl (pi_range1 (by rfl) T.range (pa_cons pe_int pa_nil)) (pg_name (i := 3) sc_law.nd rfl (.inl rfl))
          (pss_cons (ps_set (i := 4) sc_law.nd rfl (.inl rfl) (pe_c C_law_tree hr (by decide) rfl (pa_cons (pv 2) (pa_cons (pe_ix ix_list (pe_lst (pa_cons pe_int (pa_cons pe_int pa_nil))) (pv 3) (fun _ _ => rfl)) pa_nil))))
          (pss_cut (ps_if (PW.pt (pw_or (pt_not (pt_val (pe_c C_law_together_right hr (by decide) rfl (pa_cons (pv 4) pa_nil)))) (pw_or1 (pt_not (pt_val (pe_c C_law_sides_right hr (by decide) rfl (pa_cons (pv 4) pa_nil)))))))
            (pss_one (ps_ret pe_bl))
            pss_nil)
          (pss_one (ps_if (pt_not (pt_val (pe_c C_law_changed_right hr (by decide) rfl (pa_cons (pv 2) (pa_cons (pv 4) pa_nil)))))
            (pss_one (ps_ret pe_bl))
            pss_nil))))))))
      (pss_one (ps_ret pe_bl))), ?_⟩
    refine ⟨fun σ' H' => True, ?_, fun σ' H' _ => ?_⟩
    · refine ⟨_, rfl, 1, rfl, a, _, rfl, hS, fun p1 np1 => ?_⟩
      refine ⟨_, rfl, a, ns, rfl, SqL.same hS (same_new (Same.refl H) np1), hl, fun r r0 => ?_⟩
      refine ⟨(by show 1 ≤ sizeLine; decide), fun p2 np2 => ?_⟩
      have n12 : p1 ≠ p2 := ne_of_none upd_same np2
      have cl := cutV_length (ns.map V.int) none (some 1)
      rw [List.length_map] at cl
      refine ⟨p1, p2, _, _, rfl, rfl, by rw [upd_ne n12]; exact upd_same, upd_same, by rw [List.length_singleton]; exact sz_le (by omega), fun p3 np3 => ?_⟩
      have hcs : ∀ v ∈ cutV (ns.map V.int) none (some 1) ++ [V.int r], ∃ c : Int, v = .int c := fun v hv => by
        rcases List.mem_append.mp hv with z | z
        · obtain ⟨c, _, e⟩ := List.mem_map.mp (List.mem_of_mem_drop (List.mem_of_mem_take z))
          exact ⟨c, e.symm⟩
        · exact ⟨r, List.mem_singleton.mp z⟩
      have h3 : (upd (upd (upd H p1 (.lst (cutV (ns.map V.int) none (some 1)))) p2 (.lst [.int r])) p3 (.lst (cutV (ns.map V.int) none (some 1) ++ [.int r]))) p3 = some (.lst (cutV (ns.map V.int) none (some 1) ++ [.int r])) := upd_same
      generalize upd (upd (upd H p1 (.lst (cutV (ns.map V.int) none (some 1)))) p2 (.lst [.int r])) p3 (.lst (cutV (ns.map V.int) none (some 1) ++ [.int r])) = H3 at h3
      generalize cutV (ns.map V.int) none (some 1) ++ [V.int r] = cs at hcs h3
      refine ⟨p3, rfl, ⟨_, SqL.of h3⟩, for_list (K := K) (a := p3) (xs := cs) (fun i σ' H' => (∃ x1 x2 x3 x4, σ' = [some (.ref a), x1, x2, x3, x4]) ∧ Same H3 H') ⟨⟨_, _, _, _, rfl⟩, Same.refl _⟩ (fun i σ' H' _ hP => SqL.of (hP.2 _ _ h3)) (fun i v σ' H' hi hP => ?_) (fun σ' H' hP => trivial)⟩
      obtain ⟨⟨x1, x2, x3, x4, rfl⟩, SM⟩ := hP
      obtain ⟨c, rfl⟩ := hcs v (List.mem_of_getElem? hi)
      refine ⟨_, rfl, c, rfl, fun H5 d S5 d0 D5 => ?_⟩
      refine ⟨2, rfl, by decide, by decide, for_range (lo := 0) (n := (2 : Int).toNat) (fun j σ' H'' => (∃ x3 x4, σ' = [some (.ref a), some (.int c), some (.ref d), x3, x4]) ∧ SmX d H5 H'' ∧ SeedAt H'' d (1100 * j)) ⟨⟨_, _, rfl⟩, SmX.refl _, D5⟩ (fun j σ' H'' hj hP => ?_) (fun σ' H'' hP => ?_)⟩
      · obtain ⟨⟨x3, x4, rfl⟩, S6, D6⟩ := hP
        refine ⟨_, rfl, (by show 2 ≤ sizeLine; decide), fun p np => ?_⟩
        obtain ⟨v, hv, mv⟩ := atI_in (xs := [V.int 30, .int 8]) (i := 0 + (j : Int)) (by omega) (by simpa using (by omega : (0 : Int) + (j : Int) < 2))
        obtain ⟨most, rfl, m1, m30⟩ : ∃ m : Nat, v = .int m ∧ 1 ≤ m ∧ m ≤ 30 := by
          simp only [List.mem_cons, List.not_mem_nil, or_false] at mv
          rcases mv with e | e
          · exact ⟨30, e, by omega, by omega⟩
          · exact ⟨8, e, by omega, by omega⟩
        refine ⟨_, rfl, p, _, 0 + (j : Int), _, rfl, rfl, SqL.of upd_same, hv, ?_⟩
        refine ⟨d, _, most, rfl, D6.new np, by omega, m1, m30, fun H7 t pl ts it ok pll hDt hZ S7 D7 => ?_⟩
        have fine : Fine pl ts := ⟨it, ok, by omega⟩
        refine ⟨fun σ' H' => σ' = [some (.ref a), some (.int c), some (.ref d), some (.int (0 + (j : Int))), some (.ref t)] ∧ Same H7 H', ?_, fun σ' H' hM => ?_⟩
        · refine ⟨_, rfl, .ref t, pl, ts, rfl, hDt, fine, fun H8 S8 => ⟨_, rfl, ?_⟩⟩
          refine iteF ⟨_, rfl, .ref t, pl, ts, rfl, Dt.keep (TK.of S8) hDt, ?_, fine, fun H9 S9 => ⟨_, rfl, iteF ⟨rfl, S8.trans S9⟩⟩⟩
          obtain ⟨t', a', b', o, et, ht', od, hfz⟩ := hZ
          exact ⟨t', a', b', o, et, S8 _ _ ht', od, S8 _ _ hfz⟩
        · obtain ⟨rfl, S8⟩ := hM
          refine ⟨_, rfl, _, rfl, d, _, .ref t, pl, ts, rfl, D7.same S8, by omega, Dt.keep (TK.of S8) hDt, fine, by omega, fun H9 S9 D9 => ⟨_, rfl, iteF ⟨⟨_, _, rfl⟩, ?_, ?_⟩⟩⟩
          · exact (((S6.new np).trans S7).trans fun b o _ h => S8 b o h).trans S9
          · exact D9.mono (by omega)
      · obtain ⟨⟨x3, x4, rfl⟩, S6, D6⟩ := hP
        refine ⟨⟨_, _, _, _, rfl⟩, fun b o h => S6 b o (fun e => ?_) (S5 _ _ (SM _ _ h))⟩
        rw [e] at h
        rw [SM _ _ h] at d0
        cases d0
    · exact q _
end
end Far

namespace Far
open PySem PySem.Spec PyProof.Rows L2
theorem all_mk {l : PySem.W.OpenLaw} {w : World} {K : PySem.W.Frag} {h : Heap} {mg : Str → Option Value} {fa f1 f2 f3 f4 f5 f6 f7 f8 f9 f10 f11 f12 f13 f14 f15 f16 f17 f18 f19 f20 f21 f22 : Addr} (X : K.In h) (G : h.Ns mainGlobals mg) (hfa : mg "law" = some (.ref fa))
    {od1 od2 od3 od4 od5 od6 od7 od8 od9 od10 od11 od12 od13 od14 od15 od16 od17 od18 od19 od20 od21 od22 an1 an2 an3 an4 an5 an6 an7 an8 an9 an10 an11 an12 an13 an14 an15 an16 an17 an18 an19 an20 an21 an22 : Option Addr} {sl1 sl2 sl3 sl4 sl5 sl6 sl7 sl8 sl9 sl10 sl11 sl12 sl13 sl14 sl15 sl16 sl17 sl18 sl19 sl20 sl21 sl22 : Array (Option Value)} {oc1 oc2 oc3 oc4 oc5 oc6 oc7 oc8 oc9 oc10 oc11 oc12 oc13 oc14 oc15 oc16 oc17 oc18 oc19 oc20 oc21 oc22 kV1 kV2 kV3 kV4 kV5 kV6 kV7 kV8 kV9 kV10 kV11 kV12 kV13 kV14 kV15 kV16 kV17 kV18 kV19 kV20 kV21 kV22 dc1 dc2 dc3 dc4 dc5 dc6 dc7 dc8 dc9 dc10 dc11 dc12 dc13 dc14 dc15 dc16 dc17 dc18 dc19 dc20 dc21 dc22 pm1 pm2 pm3 pm4 pm5 pm6 pm7 pm8 pm9 pm10 pm11 pm12 pm13 pm14 pm15 pm16 pm17 pm18 pm19 pm20 pm21 pm22 cd1 cd2 cd3 cd4 cd5 cd6 cd7 cd8 cd9 cd10 cd11 cd12 cd13 cd14 cd15 cd16 cd17 cd18 cd19 cd20 cd21 cd22 ct1 ct2 ct3 ct4 ct5 ct6 ct7 ct8 ct9 ct10 ct11 ct12 ct13 ct14 ct15 ct16 ct17 ct18 ct19 ct20 ct21 ct22 : Value}
    (a1 : PySem.W.nsIn K mainGlobals "_law_folded" = some (some (.ref f1))) (l1 : K.lookup f1 = some ⟨oc1, od1, .func (PySem.W.fnOf "_law_folded" "_law_folded" (defArgs s_law_folded) (defBody s_law_folded) (defScope s_law_folded) .none kV1 dc1 pm1 an1 cd1 ct1), sl1⟩) (c1 : PySem.W.codeIn K cd1 "_law_folded" = true) (k1 : PySem.W.keepIn K (.ref f1) = true)
    (a2 : PySem.W.nsIn K mainGlobals "_law_seed" = some (some (.ref f2))) (l2 : K.lookup f2 = some ⟨oc2, od2, .func (PySem.W.fnOf "_law_seed" "_law_seed" (defArgs s_law_seed) (defBody s_law_seed) (defScope s_law_seed) .none kV2 dc2 pm2 an2 cd2 ct2), sl2⟩) (c2 : PySem.W.codeIn K cd2 "_law_seed" = true) (k2 : PySem.W.keepIn K (.ref f2) = true)
    (a3 : PySem.W.nsIn K mainGlobals "_law_draw" = some (some (.ref f3))) (l3 : K.lookup f3 = some ⟨oc3, od3, .func (PySem.W.fnOf "_law_draw" "_law_draw" (defArgs s_law_draw) (defBody s_law_draw) (defScope s_law_draw) .none kV3 dc3 pm3 an3 cd3 ct3), sl3⟩) (c3 : PySem.W.codeIn K cd3 "_law_draw" = true) (k3 : PySem.W.keepIn K (.ref f3) = true)
    (a4 : PySem.W.nsIn K mainGlobals "_law_name" = some (some (.ref f4))) (l4 : K.lookup f4 = some ⟨oc4, od4, .func (PySem.W.fnOf "_law_name" "_law_name" (defArgs s_law_name) (defBody s_law_name) (defScope s_law_name) .none kV4 dc4 pm4 an4 cd4 ct4), sl4⟩) (c4 : PySem.W.codeIn K cd4 "_law_name" = true) (k4 : PySem.W.keepIn K (.ref f4) = true)
    (a5 : PySem.W.nsIn K mainGlobals "_law_length" = some (some (.ref f5))) (l5 : K.lookup f5 = some ⟨oc5, od5, .func (PySem.W.fnOf "_law_length" "_law_length" (defArgs s_law_length) (defBody s_law_length) (defScope s_law_length) .none kV5 dc5 pm5 an5 cd5 ct5), sl5⟩) (c5 : PySem.W.codeIn K cd5 "_law_length" = true) (k5 : PySem.W.keepIn K (.ref f5) = true)
    (a6 : PySem.W.nsIn K mainGlobals "_law_tree" = some (some (.ref f6))) (l6 : K.lookup f6 = some ⟨oc6, od6, .func (PySem.W.fnOf "_law_tree" "_law_tree" (defArgs s_law_tree) (defBody s_law_tree) (defScope s_law_tree) .none kV6 dc6 pm6 an6 cd6 ct6), sl6⟩) (c6 : PySem.W.codeIn K cd6 "_law_tree" = true) (k6 : PySem.W.keepIn K (.ref f6) = true)
    (a7 : PySem.W.nsIn K mainGlobals "_ties_of_each" = some (some (.ref f7))) (l7 : K.lookup f7 = some ⟨oc7, od7, .func (PySem.W.fnOf "_ties_of_each" "_ties_of_each" (defArgs s_ties_of_each) (defBody s_ties_of_each) (defScope s_ties_of_each) .none kV7 dc7 pm7 an7 cd7 ct7), sl7⟩) (c7 : PySem.W.codeIn K cd7 "_ties_of_each" = true) (k7 : PySem.W.keepIn K (.ref f7) = true)
    (a8 : PySem.W.nsIn K mainGlobals "walk_from" = some (some (.ref f8))) (l8 : K.lookup f8 = some ⟨oc8, od8, .func (PySem.W.fnOf "walk_from" "walk_from" (defArgs s_walk_from) (defBody s_walk_from) (defScope s_walk_from) .none kV8 dc8 pm8 an8 cd8 ct8), sl8⟩) (c8 : PySem.W.codeIn K cd8 "walk_from" = true) (k8 : PySem.W.keepIn K (.ref f8) = true)
    (a9 : PySem.W.nsIn K mainGlobals "check_places" = some (some (.ref f9))) (l9 : K.lookup f9 = some ⟨oc9, od9, .func (PySem.W.fnOf "check_places" "check_places" (defArgs s_check_places) (defBody s_check_places) (defScope s_check_places) .none kV9 dc9 pm9 an9 cd9 ct9), sl9⟩) (c9 : PySem.W.codeIn K cd9 "check_places" = true) (k9 : PySem.W.keepIn K (.ref f9) = true)
    (a10 : PySem.W.nsIn K mainGlobals "lengths_from" = some (some (.ref f10))) (l10 : K.lookup f10 = some ⟨oc10, od10, .func (PySem.W.fnOf "lengths_from" "lengths_from" (defArgs s_lengths_from) (defBody s_lengths_from) (defScope s_lengths_from) .none kV10 dc10 pm10 an10 cd10 ct10), sl10⟩) (c10 : PySem.W.codeIn K cd10 "lengths_from" = true) (k10 : PySem.W.keepIn K (.ref f10) = true)
    (a11 : PySem.W.nsIn K mainGlobals "pairs_in_order" = some (some (.ref f11))) (l11 : K.lookup f11 = some ⟨oc11, od11, .func (PySem.W.fnOf "pairs_in_order" "pairs_in_order" (defArgs s_pairs_in_order) (defBody s_pairs_in_order) (defScope s_pairs_in_order) .none kV11 dc11 pm11 an11 cd11 ct11), sl11⟩) (c11 : PySem.W.codeIn K cd11 "pairs_in_order" = true) (k11 : PySem.W.keepIn K (.ref f11) = true)
    (a12 : PySem.W.nsIn K mainGlobals "sums_from" = some (some (.ref f12))) (l12 : K.lookup f12 = some ⟨oc12, od12, .func (PySem.W.fnOf "sums_from" "sums_from" (defArgs s_sums_from) (defBody s_sums_from) (defScope s_sums_from) .none kV12 dc12 pm12 an12 cd12 ct12), sl12⟩) (c12 : PySem.W.codeIn K cd12 "sums_from" = true) (k12 : PySem.W.keepIn K (.ref f12) = true)
    (a13 : PySem.W.nsIn K mainGlobals "least_sums" = some (some (.ref f13))) (l13 : K.lookup f13 = some ⟨oc13, od13, .func (PySem.W.fnOf "least_sums" "least_sums" (defArgs s_least_sums) (defBody s_least_sums) (defScope s_least_sums) .none kV13 dc13 pm13 an13 cd13 ct13), sl13⟩) (c13 : PySem.W.codeIn K cd13 "least_sums" = true) (k13 : PySem.W.keepIn K (.ref f13) = true)
    (a14 : PySem.W.nsIn K mainGlobals "total_of" = some (some (.ref f14))) (l14 : K.lookup f14 = some ⟨oc14, od14, .func (PySem.W.fnOf "total_of" "total_of" (defArgs s_total_of) (defBody s_total_of) (defScope s_total_of) .none kV14 dc14 pm14 an14 cd14 ct14), sl14⟩) (c14 : PySem.W.codeIn K cd14 "total_of" = true) (k14 : PySem.W.keepIn K (.ref f14) = true)
    (a15 : PySem.W.nsIn K mainGlobals "pairs_by_length" = some (some (.ref f15))) (l15 : K.lookup f15 = some ⟨oc15, od15, .func (PySem.W.fnOf "pairs_by_length" "pairs_by_length" (defArgs s_pairs_by_length) (defBody s_pairs_by_length) (defScope s_pairs_by_length) .none kV15 dc15 pm15 an15 cd15 ct15), sl15⟩) (c15 : PySem.W.codeIn K cd15 "pairs_by_length" = true) (k15 : PySem.W.keepIn K (.ref f15) = true)
    (a16 : PySem.W.nsIn K mainGlobals "count_so_far" = some (some (.ref f16))) (l16 : K.lookup f16 = some ⟨oc16, od16, .func (PySem.W.fnOf "count_so_far" "count_so_far" (defArgs s_count_so_far) (defBody s_count_so_far) (defScope s_count_so_far) .none kV16 dc16 pm16 an16 cd16 ct16), sl16⟩) (c16 : PySem.W.codeIn K cd16 "count_so_far" = true) (k16 : PySem.W.keepIn K (.ref f16) = true)
    (a17 : PySem.W.nsIn K mainGlobals "farthest" = some (some (.ref f17))) (l17 : K.lookup f17 = some ⟨oc17, od17, .func (PySem.W.fnOf "farthest" "farthest" (defArgs s_farthest) (defBody s_farthest) (defScope s_farthest) .none kV17 dc17 pm17 an17 cd17 ct17), sl17⟩) (c17 : PySem.W.codeIn K cd17 "farthest" = true) (k17 : PySem.W.keepIn K (.ref f17) = true)
    (a18 : PySem.W.nsIn K mainGlobals "_law_side" = some (some (.ref f18))) (l18 : K.lookup f18 = some ⟨oc18, od18, .func (PySem.W.fnOf "_law_side" "_law_side" (defArgs s_law_side) (defBody s_law_side) (defScope s_law_side) .none kV18 dc18 pm18 an18 cd18 ct18), sl18⟩) (c18 : PySem.W.codeIn K cd18 "_law_side" = true) (k18 : PySem.W.keepIn K (.ref f18) = true)
    (a19 : PySem.W.nsIn K mainGlobals "_law_together_right" = some (some (.ref f19))) (l19 : K.lookup f19 = some ⟨oc19, od19, .func (PySem.W.fnOf "_law_together_right" "_law_together_right" (defArgs s_law_together_right) (defBody s_law_together_right) (defScope s_law_together_right) .none kV19 dc19 pm19 an19 cd19 ct19), sl19⟩) (c19 : PySem.W.codeIn K cd19 "_law_together_right" = true) (k19 : PySem.W.keepIn K (.ref f19) = true)
    (a20 : PySem.W.nsIn K mainGlobals "_law_sides_right" = some (some (.ref f20))) (l20 : K.lookup f20 = some ⟨oc20, od20, .func (PySem.W.fnOf "_law_sides_right" "_law_sides_right" (defArgs s_law_sides_right) (defBody s_law_sides_right) (defScope s_law_sides_right) .none kV20 dc20 pm20 an20 cd20 ct20), sl20⟩) (c20 : PySem.W.codeIn K cd20 "_law_sides_right" = true) (k20 : PySem.W.keepIn K (.ref f20) = true)
    (a21 : PySem.W.nsIn K mainGlobals "_law_changed_right" = some (some (.ref f21))) (l21 : K.lookup f21 = some ⟨oc21, od21, .func (PySem.W.fnOf "_law_changed_right" "_law_changed_right" (defArgs s_law_changed_right) (defBody s_law_changed_right) (defScope s_law_changed_right) .none kV21 dc21 pm21 an21 cd21 ct21), sl21⟩) (c21 : PySem.W.codeIn K cd21 "_law_changed_right" = true) (k21 : PySem.W.keepIn K (.ref f21) = true)
    (a22 : PySem.W.nsIn K mainGlobals "law" = some (some (.ref f22))) (l22 : K.lookup f22 = some ⟨oc22, od22, .func (PySem.W.fnOf "law" "law" (defArgs s_law) (defBody s_law) (defScope s_law) .none kV22 dc22 pm22 an22 cd22 ct22), sl22⟩) (c22 : PySem.W.codeIn K cd22 "law" = true) (k22 : PySem.W.keepIn K (.ref f22) = true)
    (zbool : PySem.W.nsIn K mainGlobals "bool" = some none)
    (zdict : PySem.W.nsIn K mainGlobals "dict" = some none)
    (zenumerate : PySem.W.nsIn K mainGlobals "enumerate" = some none)
    (zint : PySem.W.nsIn K mainGlobals "int" = some none)
    (zisinstance : PySem.W.nsIn K mainGlobals "isinstance" = some none)
    (zlen : PySem.W.nsIn K mainGlobals "len" = some none)
    (zlist : PySem.W.nsIn K mainGlobals "list" = some none)
    (zmax : PySem.W.nsIn K mainGlobals "max" = some none)
    (zmin : PySem.W.nsIn K mainGlobals "min" = some none)
    (zrange : PySem.W.nsIn K mainGlobals "range" = some none)
    (zsorted : PySem.W.nsIn K mainGlobals "sorted" = some none)
    (zsum : PySem.W.nsIn K mainGlobals "sum" = some none)
    (ztuple : PySem.W.nsIn K mainGlobals "tuple" = some none)
    (zzip : PySem.W.nsIn K mainGlobals "zip" = some none) :
    ∃ fd : FuncData, (∀ (s : Shared) (v : Value), BindsTo s fd ⟨[v], []⟩ [("script", v)]) ∧ ∀ base : Heap, K.In base → base.Ns mainGlobals mg → FnOk l.prog w K mg base CX0 7 fa fd ["script"] (spLaw K) := by
  have e := hfa.symm.trans (PySem.W.mg_of X G a22)
  cases e
  have F1 := fun_mk (st := s_law_folded) l1 c1 k1
  have b1 := F1.binds (ps := ["script"]) fun _ _ _ _ _ _ us hl => match us, hl with | [_], _ => rfl
  have F2 := fun_mk (st := s_law_seed) l2 c2 k2
  have b2 := F2.binds (ps := ["cell"]) fun _ _ _ _ _ _ us hl => match us, hl with | [_], _ => rfl
  have F3 := fun_mk (st := s_law_draw) l3 c3 k3
  have b3 := F3.binds (ps := ["seed", "most"]) fun _ _ _ _ _ _ us hl => match us, hl with | [_, _], _ => rfl
  have F4 := fun_mk (st := s_law_name) l4 c4 k4
  have b4 := F4.binds (ps := ["seed", "names"]) fun _ _ _ _ _ _ us hl => match us, hl with | [_, _], _ => rfl
  have F5 := fun_mk (st := s_law_length) l5 c5 k5
  have b5 := F5.binds (ps := ["seed", "kind"]) fun _ _ _ _ _ _ us hl => match us, hl with | [_, _], _ => rfl
  have F6 := fun_mk (st := s_law_tree) l6 c6 k6
  have b6 := F6.binds (ps := ["seed", "most"]) fun _ _ _ _ _ _ us hl => match us, hl with | [_, _], _ => rfl
  have F7 := fun_mk (st := s_ties_of_each) l7 c7 k7
  have b7 := F7.binds (ps := ["tree"]) fun _ _ _ _ _ _ us hl => match us, hl with | [_], _ => rfl
  have F8 := fun_mk (st := s_walk_from) l8 c8 k8
  have b8 := F8.binds (ps := ["tree", "start"]) fun _ _ _ _ _ _ us hl => match us, hl with | [_, _], _ => rfl
  have F9 := fun_mk (st := s_check_places) l9 c9 k9
  have b9 := F9.binds (ps := ["tree", "names"]) fun _ _ _ _ _ _ us hl => match us, hl with | [_, _], _ => rfl
  have F10 := fun_mk (st := s_lengths_from) l10 c10 k10
  have b10 := F10.binds (ps := ["tree", "place"]) fun _ _ _ _ _ _ us hl => match us, hl with | [_, _], _ => rfl
  have F11 := fun_mk (st := s_pairs_in_order) l11 c11 k11
  have b11 := F11.binds (ps := ["tree"]) fun _ _ _ _ _ _ us hl => match us, hl with | [_], _ => rfl
  have F12 := fun_mk (st := s_sums_from) l12 c12 k12
  have b12 := F12.binds (ps := ["tree"]) fun _ _ _ _ _ _ us hl => match us, hl with | [_], _ => rfl
  have F13 := fun_mk (st := s_least_sums) l13 c13 k13
  have b13 := F13.binds (ps := ["tree"]) fun _ _ _ _ _ _ us hl => match us, hl with | [_], _ => rfl
  have F14 := fun_mk (st := s_total_of) l14 c14 k14
  have b14 := F14.binds (ps := ["tree"]) fun _ _ _ _ _ _ us hl => match us, hl with | [_], _ => rfl
  have F15 := fun_mk (st := s_pairs_by_length) l15 c15 k15
  have b15 := F15.binds (ps := ["tree"]) fun _ _ _ _ _ _ us hl => match us, hl with | [_], _ => rfl
  have F16 := fun_mk (st := s_count_so_far) l16 c16 k16
  have b16 := F16.binds (ps := ["tree", "length"]) fun _ _ _ _ _ _ us hl => match us, hl with | [_, _], _ => rfl
  have F17 := fun_mk (st := s_farthest) l17 c17 k17
  have b17 := F17.binds (ps := ["tree"]) fun _ _ _ _ _ _ us hl => match us, hl with | [_], _ => rfl
  have F18 := fun_mk (st := s_law_side) l18 c18 k18
  have b18 := F18.binds (ps := ["tree", "one", "other"]) fun _ _ _ _ _ _ us hl => match us, hl with | [_, _, _], _ => rfl
  have F19 := fun_mk (st := s_law_together_right) l19 c19 k19
  have b19 := F19.binds (ps := ["tree"]) fun _ _ _ _ _ _ us hl => match us, hl with | [_], _ => rfl
  have F20 := fun_mk (st := s_law_sides_right) l20 c20 k20
  have b20 := F20.binds (ps := ["tree"]) fun _ _ _ _ _ _ us hl => match us, hl with | [_], _ => rfl
  have F21 := fun_mk (st := s_law_changed_right) l21 c21 k21
  have b21 := F21.binds (ps := ["seed", "tree"]) fun _ _ _ _ _ _ us hl => match us, hl with | [_, _], _ => rfl
  have F22 := fun_mk (st := s_law) l22 c22 k22
  have T0 : TxtG mg := ⟨PySem.W.mg_none_of X G zlen, PySem.W.mg_none_of X G zmax, PySem.W.mg_none_of X G zmin, PySem.W.mg_none_of X G zint, PySem.W.mg_none_of X G zrange, PySem.W.mg_none_of X G zlist, PySem.W.mg_none_of X G ztuple⟩
  have TW : TxtW mg := ⟨PySem.W.mg_none_of X G ztuple⟩
  have TQ : TxtQ mg := ⟨PySem.W.mg_none_of X G zlen, PySem.W.mg_none_of X G zrange, PySem.W.mg_none_of X G ztuple, PySem.W.mg_none_of X G zenumerate⟩
  have TM15 : TxtM15 mg := ⟨PySem.W.mg_none_of X G ztuple, PySem.W.mg_none_of X G zsum, PySem.W.mg_none_of X G zmin, PySem.W.mg_none_of X G zzip, PySem.W.mg_none_of X G zrange⟩
  have TM16 : TxtM16 mg := ⟨PySem.W.mg_none_of X G zisinstance, PySem.W.mg_none_of X G zdict, PySem.W.mg_none_of X G zlist, PySem.W.mg_none_of X G zbool, PySem.W.mg_none_of X G zint, PySem.W.mg_none_of X G zlen, PySem.W.mg_none_of X G zsorted, PySem.W.mg_none_of X G zenumerate⟩
  have TM09 : TxtM09 mg := ⟨PySem.W.mg_none_of X G zlen, PySem.W.mg_none_of X G zmax, PySem.W.mg_none_of X G zrange⟩
  have TS : TxtS17 mg := ⟨PySem.W.mg_none_of X G zlen, PySem.W.mg_none_of X G zzip, PySem.W.mg_none_of X G zlist, PySem.W.mg_none_of X G zsum, PySem.W.mg_none_of X G zmax⟩
  have TC : TxtC17 mg := ⟨PySem.W.mg_none_of X G zlen, PySem.W.mg_none_of X G zlist⟩
  have C_law_folded : ∀ base : Heap, Cal l.prog w K mg base 1 "_law_folded" (spFolded K) := fun base => ⟨f1, _, _, ok_folded F1 T0, PySem.W.mg_of X G a1, k1, b1⟩
  have C_law_seed : ∀ base : Heap, Cal l.prog w K mg base 1 "_law_seed" spSeed := fun base => ⟨f2, _, _, ok_seed F2 T0, PySem.W.mg_of X G a2, k2, b2⟩
  have C_law_draw : ∀ base : Heap, Cal l.prog w K mg base 1 "_law_draw" spDraw := fun base => ⟨f3, _, _, ok_draw F3 T0, PySem.W.mg_of X G a3, k3, b3⟩
  have C_law_name : ∀ base : Heap, Cal l.prog w K mg base 2 "_law_name" spName := fun base => ⟨f4, _, _, ok_name F4 T0 (C_law_draw base), PySem.W.mg_of X G a4, k4, b4⟩
  have C_law_length : ∀ base : Heap, Cal l.prog w K mg base 2 "_law_length" spLength := fun base => ⟨f5, _, _, ok_length F5 (C_law_draw base), PySem.W.mg_of X G a5, k5, b5⟩
  have C_law_tree : ∀ base : Heap, Cal l.prog w K mg base 3 "_law_tree" spTree := fun base => ⟨f6, _, _, ok_tree F6 T0 (C_law_draw base) (C_law_name base) (C_law_length base), PySem.W.mg_of X G a6, k6, b6⟩
  have C_ties_of_each : ∀ base : Heap, Cal l.prog w K mg base 1 "_ties_of_each" spTies := fun base => ⟨f7, _, _, ok_ties_of_each F7, PySem.W.mg_of X G a7, k7, b7⟩
  have Cwalk_from : ∀ base : Heap, Cal l.prog w K mg base 2 "walk_from" spWalk := fun base => ⟨f8, _, _, ok_walk_from F8 (C_ties_of_each base), PySem.W.mg_of X G a8, k8, b8⟩
  have Ccheck_places : ∀ base : Heap, Cal l.prog w K mg base 1 "check_places" spCheck := fun base => ⟨f9, _, _, ok_check_places F9, PySem.W.mg_of X G a9, k9, b9⟩
  have Clengths_from : ∀ base : Heap, Cal l.prog w K mg base 3 "lengths_from" spLens := fun base => ⟨f10, _, _, ok_lengths_from F10 TW (Ccheck_places base) (Cwalk_from base), PySem.W.mg_of X G a10, k10, b10⟩
  have Cpairs_in_order : ∀ base : Heap, Cal l.prog w K mg base 4 "pairs_in_order" spPio := fun base => ⟨f11, _, _, ok_pio F11 TQ (Clengths_from base), PySem.W.mg_of X G a11, k11, b11⟩
  have Csums_from : ∀ base : Heap, Cal l.prog w K mg base 4 "sums_from" spSums := fun base => ⟨f12, _, _, ok_sums F12 TM15 (Clengths_from base), PySem.W.mg_of X G a12, k12, b12⟩
  have Cleast_sums : ∀ base : Heap, Cal l.prog w K mg base 5 "least_sums" spLeast := fun base => ⟨f13, _, _, ok_least_sums F13 TM15 (Csums_from base), PySem.W.mg_of X G a13, k13, b13⟩
  have Ctotal_of : ∀ base : Heap, Cal l.prog w K mg base 5 "total_of" spTotal := fun base => ⟨f14, _, _, ok_total F14 TM15 (Cpairs_in_order base), PySem.W.mg_of X G a14, k14, b14⟩
  have Cpairs_by_length : ∀ base : Heap, Cal l.prog w K mg base 5 "pairs_by_length" spByLen := fun base => ⟨f15, _, _, ok_by_len F15 TM16 (Cpairs_in_order base), PySem.W.mg_of X G a15, k15, b15⟩
  have Ccount_so_far : ∀ base : Heap, Cal l.prog w K mg base 5 "count_so_far" spCount := fun base => ⟨f16, _, _, ok_count F16 TM09 (Cpairs_in_order base), PySem.W.mg_of X G a16, k16, b16⟩
  have Cfarthest : ∀ base : Heap, Cal l.prog w K mg base 5 "farthest" spFarthest := fun base => ⟨f17, _, _, ok_farthest F17 (Cpairs_in_order base), PySem.W.mg_of X G a17, k17, b17⟩
  have C_law_side : ∀ base : Heap, Cal l.prog w K mg base 4 "_law_side" spSide := fun base => ⟨f18, _, _, ok_side F18 TS (Clengths_from base), PySem.W.mg_of X G a18, k18, b18⟩
  have C_law_together_right : ∀ base : Heap, Cal l.prog w K mg base 6 "_law_together_right" spTogR := fun base => ⟨f19, _, _, ok_together F19 TS (Cpairs_by_length base) (Csums_from base) (Ctotal_of base) (Ccount_so_far base) (Cfarthest base), PySem.W.mg_of X G a19, k19, b19⟩
  have C_law_sides_right : ∀ base : Heap, Cal l.prog w K mg base 6 "_law_sides_right" spSidesR := fun base => ⟨f20, _, _, ok_sides F20 TS (Csums_from base) (Cleast_sums base) (C_law_side base), PySem.W.mg_of X G a20, k20, b20⟩
  have C_law_changed_right : ∀ base : Heap, Cal l.prog w K mg base 6 "_law_changed_right" spChg := fun base => ⟨f21, _, _, ok_changed F21 TC (C_law_draw base) (C_law_name base) (Csums_from base) (Ctotal_of base) (C_law_side base), PySem.W.mg_of X G a21, k21, b21⟩
  exact ⟨_, fun s v => .of_eq rfl, fun base _ _ => ok_law F22 T0 (C_law_folded base) (C_law_seed base) (C_law_tree base) (C_law_together_right base) (C_law_sides_right base) (C_law_changed_right base)⟩
end Far
open PySem PySem.W PyProof.Rows in
set_option maxRecDepth 100000 in
set_option maxHeartbeats 0 in
theorem PySem.Challenge.cw_farplaces_k17_whole_sums_together_holds : PySem.Challenge.rw_farplaces_k17_whole_sums_together.Holds := by
  w_on; o_law; k_head; (case hw => w_witness2)
  k_fill
  refine L2.walk_of (l := PySem.Challenge.rw_farplaces_k17_whole_sums_together) (n := 63) (k := 7) (x := "script") (CX := fun _ => L2.CX0) (sp := fun w => Far.spLaw _) rfl (by decide) rfl ⟨rfl, by decide, by decide⟩ (fun w h Y => PySem.W.kIn_of Y) ?F (fun _ _ a ns hl _ hS => ⟨a, ns, rfl, hS, hl, fun _ => rfl⟩) (fun _ _ _ _ _ h => h)
  case F =>
    intro w mg fa h KX G hmg
    refine' Far.all_mk KX G hmg ?a1 ?l1 ?c1 ?k1 ?a2 ?l2 ?c2 ?k2 ?a3 ?l3 ?c3 ?k3 ?a4 ?l4 ?c4 ?k4 ?a5 ?l5 ?c5 ?k5 ?a6 ?l6 ?c6 ?k6 ?a7 ?l7 ?c7 ?k7 ?a8 ?l8 ?c8 ?k8 ?a9 ?l9 ?c9 ?k9 ?a10 ?l10 ?c10 ?k10 ?a11 ?l11 ?c11 ?k11 ?a12 ?l12 ?c12 ?k12 ?a13 ?l13 ?c13 ?k13 ?a14 ?l14 ?c14 ?k14 ?a15 ?l15 ?c15 ?k15 ?a16 ?l16 ?c16 ?k16 ?a17 ?l17 ?c17 ?k17 ?a18 ?l18 ?c18 ?k18 ?a19 ?l19 ?c19 ?k19 ?a20 ?l20 ?c20 ?k20 ?a21 ?l21 ?c21 ?k21 ?a22 ?l22 ?c22 ?k22 ?zbool ?zdict ?zenumerate ?zint ?zisinstance ?zlen ?zlist ?zmax ?zmin ?zrange ?zsorted ?zsum ?ztuple ?zzip
    (case a1 => k_is); (case l1 => k_is); (case c1 => k_is); (case k1 => k_is); (case a2 => k_is); (case l2 => k_is); (case c2 => k_is); (case k2 => k_is); (case a3 => k_is); (case l3 => k_is); (case c3 => k_is); (case k3 => k_is); (case a4 => k_is); (case l4 => k_is); (case c4 => k_is); (case k4 => k_is); (case a5 => k_is); (case l5 => k_is); (case c5 => k_is); (case k5 => k_is); (case a6 => k_is); (case l6 => k_is); (case c6 => k_is); (case k6 => k_is); (case a7 => k_is); (case l7 => k_is); (case c7 => k_is); (case k7 => k_is); (case a8 => k_is); (case l8 => k_is); (case c8 => k_is); (case k8 => k_is); (case a9 => k_is); (case l9 => k_is); (case c9 => k_is); (case k9 => k_is); (case a10 => k_is); (case l10 => k_is); (case c10 => k_is); (case k10 => k_is); (case a11 => k_is); (case l11 => k_is); (case c11 => k_is); (case k11 => k_is); (case a12 => k_is); (case l12 => k_is); (case c12 => k_is); (case k12 => k_is); (case a13 => k_is); (case l13 => k_is); (case c13 => k_is); (case k13 => k_is); (case a14 => k_is); (case l14 => k_is); (case c14 => k_is); (case k14 => k_is); (case a15 => k_is); (case l15 => k_is); (case c15 => k_is); (case k15 => k_is); (case a16 => k_is); (case l16 => k_is); (case c16 => k_is); (case k16 => k_is); (case a17 => k_is); (case l17 => k_is); (case c17 => k_is); (case k17 => k_is); (case a18 => k_is); (case l18 => k_is); (case c18 => k_is); (case k18 => k_is); (case a19 => k_is); (case l19 => k_is); (case c19 => k_is); (case k19 => k_is); (case a20 => k_is); (case l20 => k_is); (case c20 => k_is); (case k20 => k_is); (case a21 => k_is); (case l21 => k_is); (case c21 => k_is); (case k21 => k_is); (case a22 => k_is); (case l22 => k_is); (case c22 => k_is); (case k22 => k_is); (case zbool => k_is); (case zdict => k_is); (case zenumerate => k_is); (case zint => k_is); (case zisinstance => k_is); (case zlen => k_is); (case zlist => k_is); (case zmax => k_is); (case zmin => k_is); (case zrange => k_is); (case zsorted => k_is); (case zsum => k_is); (case ztuple => k_is); (case zzip => k_is)

