import PyProof.Rows.All
import Wide.All
import OpenK.AllK
import Wide.FinOn
import HandS.ForMost
import HandS.Wide
import HandS.Codes
import HandS.Conv
import HandS.TupAny
import HandS.Style
import HandS.IsInst
import HandS.FStr
import HandS.DictComp
import HandS.NoneIn
import HandS.Strs
import HandS.Gcd
import HandS.List
import KE.KTupSum
import KE.GoesMore
import PyProof.WalkInts
import KE.GoesEnum
import HandS.Zip
import HandS.SortInts
import HandS.Lambda
import HandS.SortKw
import KE.SortKeyHeap
import KE.KSortKey
import KE.SortData
import HandS.Sort
import HandS.TupLe
import PySem.Challenge.RW_farplaces_k13_papers_looked_at
set_option Elab.async false
set_option linter.all false
set_option maxRecDepth 100000
set_option maxHeartbeats 8000000
namespace Far
open PySem PySem.Spec PyProof.Rows L2
open C8 (pss_cut tCut)
open SX (S)
def topS (i : Nat) : Stmt := PySem.Challenge.pw_farplaces_k13_papers_looked_at.main.body.getD i (.Pass ⟨0, 0, 0, 0⟩)

theorem hd_of {A : Around} {k : Nat} (hr : Room k A) (h : 1 ≤ k) : A.units + 64 < cLine := by
  have := hr.units
  omega

/-- a def of the module that may be called by its name -/
structure Cal (P : Program) (w : World) (K : PySem.W.Frag) (mg : Str → Option Value) (base : Heap) (k : Nat) (x : Str) (sp : Sp) : Prop where
  ex : ∃ (f : Addr) (fd : FuncData) (ps : List Str), FnOk P w K mg base CX0 k f fd ps sp ∧ mg x = some (.ref f) ∧ PySem.W.keepIn K (.ref f) = true ∧ Binds K fd ps []
theorem pe_c {X : Cx} {k j : Nat} {x : Str} {sp : Sp} {p pos : Pos} {e : Expr} {es : List Expr} {t : TA} (c : Cal X.prog X.w X.K X.mg X.base k x sp) (hr : Room j X.A) (hk : k ≤ j) (hg : Gl X x) (ha : PA X (e :: es) t)
    (hdb : (x == ("__debug__" : Str)) = false := by decide) (he : starEach (e :: es) X.env = (false, eval e X.env) :: starEach es X.env := by rfl) (hpl : (backTo pos (starEach es X.env)).any (·.1) = false := by rfl) :
    PE X (.Call (.Name x p) (e :: es) [] pos) (tCall sp [] E0 t) := by
  obtain ⟨f, fd, ps, F, hm, kp, b⟩ := c.ex
  exact pe_call F (hr.mono hk) hg hm kp b .nil pass0 ha hdb he hpl

theorem bt_len : bootBuiltins ("len" : Str) = some (.builtin "len") := by decide +kernel
theorem bt_sum : bootBuiltins ("sum" : Str) = some (.builtin "sum") := by decide +kernel
theorem bt_max : bootBuiltins ("max" : Str) = some (.builtin "max") := by decide +kernel
theorem bt_all : bootBuiltins ("all" : Str) = some (.builtin "all") := by decide +kernel
theorem bt_isinstance : bootBuiltins ("isinstance" : Str) = some (.builtin "isinstance") := by decide +kernel
theorem bt_int : bootBuiltins ("int" : Str) = some (.type "int") := by decide +kernel
theorem bt_str : bootBuiltins ("str" : Str) = some (.type "str") := by decide +kernel
theorem bt_tuple : bootBuiltins ("tuple" : Str) = some (.type "tuple") := by decide +kernel
theorem bt_bool : bootBuiltins ("bool" : Str) = some (.type "bool") := by decide +kernel
theorem bt_list : bootBuiltins ("list" : Str) = some (.type "list") := by decide +kernel
/-- rules with the written part named, for use within a comprehension -/
def rLenV (K : PySem.W.Frag) : List V → Hp → VK → Prop := fun xs H Q => ∃ x n, xs = [x] ∧ LenV K x H n ∧ Q (.int n) H
theorem lenK {X : Cx} {K : PySem.W.Frag} (e : X.K = K := by rfl) : CallR X (.builtin "len") (rLenV K) := by
  subst e
  exact call_len
theorem ixl {X : Cx} {K : PySem.W.Frag} (e : X.K = K := by rfl) : IxR X (rIxL K) := by
  subst e
  exact ix_list
theorem ixt {X : Cx} {K : PySem.W.Frag} (e : X.K = K := by rfl) : IxR X (rIxT K) := by
  subst e
  exact ix_tup
/-- what the module's names hold that are built-ins, and its constants -/
structure Txt (mg : Str → Option Value) : Prop where
  len : mg "len" = none
  sum : mg "sum" = none
  range : mg "range" = none
  int : mg "int" = none
  max : mg "max" = none
  list : mg "list" = none
  tuple : mg "tuple" = none

/-- all that stood stands as it was, but for the one object -/
def SmX (d : Addr) (H H' : Hp) : Prop := ∀ b o, b ≠ d → H b = some o → H' b = some o
theorem SmX.refl {d : Addr} (H : Hp) : SmX d H H := fun _ _ _ h => h
theorem SmX.trans {d : Addr} {H H1 H2 : Hp} (a : SmX d H H1) (b : SmX d H1 H2) : SmX d H H2 := fun x o n h => b x o n (a x o n h)
theorem SmX.new {d : Addr} {H H1 : Hp} {p : Addr} {o : HO} (a : SmX d H H1) (n : H1 p = none) : SmX d H (upd H1 p o) := fun x u nx h => by
  rw [upd_ne (ne_of_none (a x u nx h) n)]
  exact a x u nx h
theorem SmX.mut {d : Addr} {H H1 : Hp} {o : HO} (a : SmX d H H1) : SmX d H (upd H1 d o) := fun x u nx h => by
  rw [upd_ne nx]
  exact a x u nx h
/-- an object that the first heap does not know may change -/
theorem SmX.put {d : Addr} {H H1 : Hp} {p : Addr} {o : HO} (a : SmX d H H1) (n : H p = none) : SmX d H (upd H1 p o) := fun x u nx h => by
  rw [upd_ne (ne_of_none h n)]
  exact a x u nx h

/-- the deck at d, its cells at c: at most n were mixed -/
def DeckAt (H : Hp) (d c : Addr) (n : Nat) : Prop := ∃ (cs : List Int) (i l m z : Int), H d = some (.lst [.ref c, .int i, .int l, .int m, .int z]) ∧ H c = some (.lst (cs.map V.int)) ∧ c ≠ d ∧ cs.length ≤ 63 ∧ 0 ≤ i ∧ i ≤ 63 ∧ 0 ≤ l ∧ 0 ≤ m ∧ m ≤ n
theorem DeckAt.new {H : Hp} {d c p : Addr} {o : HO} {n : Nat} (h : DeckAt H d c n) (np : H p = none) : DeckAt (upd H p o) d c n := by
  obtain ⟨cs, i, l, m, z, h1, h2, h3⟩ := h
  exact ⟨cs, i, l, m, z, by rw [upd_ne (ne_of_none h1 np)]; exact h1, by rw [upd_ne (ne_of_none h2 np)]; exact h2, h3⟩
theorem DeckAt.put {H : Hp} {d c p : Addr} {o : HO} {n : Nat} (h : DeckAt H d c n) (nd : p ≠ d) (nc : p ≠ c) : DeckAt (upd H p o) d c n := by
  obtain ⟨cs, i, l, m, z, h1, h2, h3⟩ := h
  exact ⟨cs, i, l, m, z, by rw [upd_ne nd.symm]; exact h1, by rw [upd_ne nc.symm]; exact h2, h3⟩
theorem DeckAt.nd {H : Hp} {d c p : Addr} {n : Nat} (h : DeckAt H d c n) (np : H p = none) : p ≠ d := fun e => by
  obtain ⟨_, _, _, _, _, h1, _⟩ := h
  rw [e, h1] at np
  cases np
theorem DeckAt.nc {H : Hp} {d c p : Addr} {n : Nat} (h : DeckAt H d c n) (np : H p = none) : p ≠ c := fun e => by
  obtain ⟨_, _, _, _, _, _, h2, _⟩ := h
  rw [e, h2] at np
  cases np
theorem DeckAt.mono {H : Hp} {d c : Addr} {n m : Nat} (h : DeckAt H d c n) (le : n ≤ m) : DeckAt H d c m := by
  obtain ⟨cs, i, l, m', z, h1, h2, h3, h4, h5, h6, h7, h8, h9⟩ := h
  exact ⟨cs, i, l, m', z, h1, h2, h3, h4, h5, h6, h7, h8, by omega⟩
theorem SmX.free {d : Addr} {H H' : Hp} {p : Addr} (a : SmX d H H') (n : H' p = none) (nd : p ≠ d) : H p = none := by
  cases q : H p with
  | none => rfl
  | some o =>
    rw [a p o nd q] at n
    cases n

/-- the signs of a name -/
def NameOk (l : List Nat) : Prop := 1 ≤ l.length ∧ l.length ≤ 8 ∧ ∀ c ∈ l, 97 ≤ c ∧ c ≤ 122
theorem sz_le {n : Nat} (h : n ≤ 100000) : n ≤ sizeLine := Nat.le_trans h (by decide)
theorem sz_lt {n : Nat} (h : n ≤ 100000) : n < sizeLine := Nat.lt_of_le_of_lt h (by decide)
theorem atI_in {α : Type} {xs : List α} {i : Int} (h0 : 0 ≤ i) (h1 : i < xs.length) : ∃ v, atI xs i = some v ∧ v ∈ xs := by
  have e : i = ((i.toNat : Nat) : Int) := by omega
  have l : i.toNat < xs.length := by omega
  refine ⟨xs[i.toNat], ?_, List.getElem_mem l⟩
  have q := atI_nat (List.getElem?_eq_getElem l)
  rwa [← e] at q
theorem S_of (z : Str) : ∃ l, z = S l := ⟨z.cps.toList, (SX.S_tl z).symm⟩
theorem join_none : ∀ ys : List (List Nat), TL.joinL [] ys = ys.flatten
  | [] => rfl
  | [x] => by simp [TL.joinL]
  | x :: y :: r => by
    have ih := join_none (y :: r)
    show x ++ ([] ++ TL.joinL [] (y :: r)) = x ++ (y :: r).flatten
    rw [ih]
    rfl
theorem flat_one (cs : List Nat) : (cs.map fun c => [c]).flatten = cs := by
  induction cs with
  | nil => rfl
  | cons c r ih => rw [List.map_cons, List.flatten_cons, ih]; rfl
theorem one_sum' (cs : List Nat) : ((cs.map fun c => S [c]).map (·.length)).sum = cs.length := by
  induction cs with
  | nil => rfl
  | cons c r ih =>
    rw [List.map_cons, List.map_cons, List.sum_cons, ih, List.length_cons, SX.S_len]
    show 1 + r.length = r.length + 1
    omega
theorem bt_min : bootBuiltins ("min" : Str) = some (.builtin "min") := by decide +kernel
theorem same_new {H H1 : Hp} {p : Addr} {o : HO} (a : Same H H1) (n : H1 p = none) : Same H (upd H1 p o) := fun x u h => by
  rw [upd_ne (ne_of_none (a x u h) n)]
  exact a x u h
theorem same_put {H H1 : Hp} {p : Addr} {o : HO} (a : Same H H1) (n : H p = none) : Same H (upd H1 p o) := fun x u h => by
  rw [upd_ne (ne_of_none h n)]
  exact a x u h
end Far

namespace Far
open PySem PySem.Spec PyProof.Rows L2
open C8 (pss_cut tCut)
open SX (S)
structure TxtG (mg : Str → Option Value) : Prop where
  len : mg "len" = none
  max : mg "max" = none
  min : mg "min" = none
  int : mg "int" = none
  range : mg "range" = none
  list : mg "list" = none
  tuple : mg "tuple" = none
/-- the seed at d, drawn from n times at most -/
def SeedAt (H : Hp) (d : Addr) (n : Nat) : Prop := ∃ a f k m : Int, H d = some (.lst [.int a, .int f, .int k, .int m]) ∧ 0 ≤ a ∧ 0 ≤ k ∧ k ≤ n ∧ 0 ≤ m ∧ m < 1999999913
theorem SeedAt.new {H : Hp} {d p : Addr} {o : HO} {n : Nat} (h : SeedAt H d n) (np : H p = none) : SeedAt (upd H p o) d n := by
  obtain ⟨a, f, k, m, h1, h2⟩ := h
  exact ⟨a, f, k, m, by rw [upd_ne (ne_of_none h1 np)]; exact h1, h2⟩
theorem SeedAt.put {H : Hp} {d p : Addr} {o : HO} {n : Nat} (h : SeedAt H d n) (nd : p ≠ d) : SeedAt (upd H p o) d n := by
  obtain ⟨a, f, k, m, h1, h2⟩ := h
  exact ⟨a, f, k, m, by rw [upd_ne nd.symm]; exact h1, h2⟩
theorem SeedAt.nd {H : Hp} {d p : Addr} {n : Nat} (h : SeedAt H d n) (np : H p = none) : p ≠ d := fun e => by
  obtain ⟨a, f, k, m, h1, _⟩ := h
  rw [e, h1] at np
  cases np
theorem SeedAt.mono {H : Hp} {d : Addr} {n m : Nat} (h : SeedAt H d n) (l : n ≤ m) : SeedAt H d m := by
  obtain ⟨a, f, k, z, h1, h2, h3, h4, h5⟩ := h
  exact ⟨a, f, k, z, h1, h2, h3, by omega, h5⟩
theorem SeedAt.lst {H : Hp} {d : Addr} {n : Nat} (h : SeedAt H d n) : ∃ xs, H d = some (.lst xs) := by
  obtain ⟨_, _, _, _, h1, _⟩ := h
  exact ⟨_, h1⟩
abbrev s_law_folded : Stmt := topS 15
abbrev N_law_folded : List Str := ["script", "found", "cell"]
theorem sc_law_folded : FnScope N_law_folded ["script"] (defScope s_law_folded) := ⟨rfl, rfl, rfl, by decide +kernel, rfl, by decide +kernel, by decide +kernel⟩
section
variable {P : Program} {w : World} {K : PySem.W.Frag} {mg : Str → Option Value} {base : Heap}
def spFolded (K : PySem.W.Frag) : Sp := fun vs H Q _ => ∃ (a : Addr) (ns : List Int), vs = [.ref a] ∧ SqL K H a (ns.map V.int) ∧ ns.length ≤ 63 ∧ ∀ r : Int, 0 ≤ r → Q (.int r) H
theorem ok_folded {f : Addr} {fd : FuncData} (F : Fun K "_law_folded" "_law_folded" s_law_folded f fd) (T : TxtG mg) : FnOk P w K mg base CX0 1 f fd ["script"] (spFolded K) := by
  refine F.ok sc_law_folded (fun vs H Q E h => ?_) (fun cdv A outer s H vs Q E hr h => ?_)
  · obtain ⟨a, ns, rfl, _⟩ := h
    rfl
  · obtain ⟨a, ns, rfl, hS, hl, q⟩ := h
    refine ⟨_, (pss_cons (ps_set (i := 1) sc_law_folded.nd rfl (.inl rfl) (pe_callB call_len_seq (by rfl) T.len bt_len (pa_cons (pv 0) pa_nil)))
      (pss_cut (ps_for PassesOwn.never rfl (pi_list (pv 0)) (pg_name (i := 2) sc_law_folded.nd rfl (.inl rfl))
        (pss_one (ps_set (i := 1) sc_law_folded.nd rfl (.inl rfl) (pe_op op_mod (pe_op op_add (pe_op op_mul (pv 1) pe_int) (pe_op op_mod (pv 2) pe_int)) pe_int))))
      (pss_one (ps_ret (pv 1))))), ?_⟩
    refine ⟨_, rfl, a, _, rfl, .inl hS, ?_⟩
    refine ⟨fun σ' H' => ∃ (r : Int) (x : Option V), σ' = [some (.ref a), some (.int r), x] ∧ 0 ≤ r ∧ H' = H, ?_, fun σ' H' hM => ?_⟩
    · refine ⟨_, rfl, a, rfl, ⟨_, hS⟩, for_list (K := K) (a := a) (xs := ns.map V.int) (fun i σ' H' => ∃ (r : Int) (x : Option V), σ' = [some (.ref a), some (.int r), x] ∧ 0 ≤ r ∧ r < 2147483647 ∧ H' = H) ⟨_, _, rfl, by omega, by rw [List.length_map]; omega, rfl⟩ (fun i σ' H' _ hP => ?_) (fun i v σ' H' hi hP => ?_) (fun σ' H' hP => ?_)⟩
      · obtain ⟨_, _, _, _, _, rfl⟩ := hP
        exact hS
      · obtain ⟨r, x, rfl, r0, r1, rfl⟩ := hP
        rw [List.getElem?_map] at hi
        cases e : ns[i]? with
        | none =>
          rw [e] at hi
          cases hi
        | some c =>
          rw [e] at hi
          have ev : v = .int c := (Option.some.inj hi).symm
          subst ev
          refine ⟨_, rfl, _, _, rfl, rfl, .inl ⟨by omega, by omega⟩, _, rfl, _, _, rfl, rfl, (by show (0 : Int) < _; decide), _, _, rfl, rfl, _, _, rfl, rfl, (by show (0 : Int) < _; decide), ?_⟩
          exact ⟨_, _, rfl, Int.emod_nonneg _ (by decide), Int.emod_lt_of_pos _ (by decide), rfl⟩
      · obtain ⟨r, x, rfl, r0, r1, rfl⟩ := hP
        exact ⟨r, x, rfl, r0, rfl⟩
    · obtain ⟨r, x, rfl, r0, rfl⟩ := hM
      exact ⟨_, rfl, q r r0⟩
end
abbrev s_law_seed : Stmt := topS 16
abbrev N_law_seed : List Str := ["cell", "number"]
theorem sc_law_seed : FnScope N_law_seed ["cell"] (defScope s_law_seed) := ⟨rfl, rfl, rfl, by decide +kernel, rfl, by decide +kernel, by decide +kernel⟩
section
variable {P : Program} {w : World} {K : PySem.W.Frag} {mg : Str → Option Value} {base : Heap}
def spSeed : Sp := fun vs H Q _ => ∃ c : Int, vs = [.int c] ∧ ∀ (H' : Hp) (d : Addr), Same H H' → H d = none → SeedAt H' d 0 → Q (.ref d) H'
theorem ok_seed {f : Addr} {fd : FuncData} (F : Fun K "_law_seed" "_law_seed" s_law_seed f fd) (T : TxtG mg) : FnOk P w K mg base CX0 1 f fd ["cell"] spSeed := by
  refine F.ok sc_law_seed (fun vs H Q E h => ?_) (fun cdv A outer s H vs Q E hr h => ?_)
  · obtain ⟨c, rfl, _⟩ := h
    rfl
  · obtain ⟨c, rfl, q⟩ := h
    refine ⟨_, (pss_cons (ps_set (i := 1) sc_law_seed.nd rfl (.inl rfl) (pe_callB (call_max2 rfl) (by rfl) T.max bt_max (pa_cons (pv 0) (pa_cons (pe_op op_sub pe_int (pv 0)) pa_nil))))
      (pss_one (ps_ret (pe_lst (pa_cons (pv 1) (pa_cons (pe_callTy call_int1 (by rfl) T.int bt_int (pa_cons (pe_cmpR op_ge (pv 1) (pe_op op_pow pe_int pe_int) (nomark _)) pa_nil)) (pa_cons pe_int (pa_cons (pe_op op_mod (pv 0) pe_int) pa_nil)))))))), ?_⟩
    refine ⟨_, rfl, _, rfl, _, _, rfl, rfl, _, _, rfl, ?_⟩
    refine ⟨_, rfl, _, rfl, _, _, rfl, rfl, ⟨by decide, by decide, by decide⟩, _, _, rfl, rfl, .inr ⟨_, rfl, ?_⟩⟩
    refine ⟨_, rfl, _, _, rfl, rfl, (by show (0 : Int) < _; decide), (by show 4 ≤ sizeLine; decide), fun d nd => ?_⟩
    refine q _ d (same_new (Same.refl H) nd) nd ⟨_, _, 0, c % 1999999913, upd_same, ?_, by omega, by omega, by omega, by omega⟩
    split <;> omega
end
abbrev s_law_draw : Stmt := topS 17
abbrev N_law_draw : List Str := ["seed", "most", "found", "number"]
theorem sc_law_draw : FnScope N_law_draw ["seed", "most"] (defScope s_law_draw) := ⟨rfl, rfl, rfl, by decide +kernel, rfl, by decide +kernel, by decide +kernel⟩
section
variable {P : Program} {w : World} {K : PySem.W.Frag} {mg : Str → Option Value} {base : Heap}
def spDraw : Sp := fun vs H Q _ => ∃ (d : Addr) (n : Nat) (many : Int), vs = [.ref d, .int many] ∧ SeedAt H d n ∧ n < 100000 ∧ 0 < many ∧ many < 2 ^ 60 ∧ ∀ (H' : Hp) (r : Int), 0 ≤ r → r < many → SmX d H H' → SeedAt H' d (n + 1) → Q (.int r) H'
theorem ok_draw {f : Addr} {fd : FuncData} (F : Fun K "_law_draw" "_law_draw" s_law_draw f fd) (T : TxtG mg) : FnOk P w K mg base CX0 1 f fd ["seed", "most"] spDraw := by
  refine F.ok sc_law_draw (fun vs H Q E h => ?_) (fun cdv A outer s H vs Q E hr h => ?_)
  · obtain ⟨d, n, many, rfl, _⟩ := h
    rfl
  · obtain ⟨d, n, many, rfl, ⟨a, g, k, m, h1, a0, k0, k1, m0, m1⟩, hn, hm0, hm1, q⟩ := h
    refine ⟨_, (pss_cons (ps_asg (pe_op op_add (pe_ix ix_list (pv 0) pe_int (fun _ _ => rfl)) pe_int) (pg_sub (pv 0) pe_int set_list))
      (pss_cut (ps_if (PW.pt (pw_and (pt_cmpR op_eq (pe_ix ix_list (pv 0) pe_int (fun _ _ => rfl)) pe_int (nomark _)) (pw_and1 (pt_cmpR op_gt (pe_ix ix_list (pv 0) pe_int (fun _ _ => rfl)) pe_int (nomark _)))))
        (pss_cons (ps_set (i := 2) sc_law_draw.nd rfl (.inl rfl) (pe_op op_mod (pe_ix ix_list (pv 0) pe_int (fun _ _ => rfl)) (pv 1)))
        (pss_cons (ps_asg (pe_op op_fdivW (pe_ix ix_list (pv 0) pe_int (fun _ _ => rfl)) (pv 1)) (pg_sub (pv 0) pe_int set_list))
        (pss_one (ps_ret (pv 2)))))
        pss_nil)
      (pss_cons (ps_set (i := 3) sc_law_draw.nd rfl (.inl rfl) (pe_op op_mod (pe_op op_mul (pe_op op_add (pe_op op_add (pe_ix ix_list (pv 0) pe_int (fun _ _ => rfl)) (pe_op op_mul pe_int (pe_ix ix_list (pv 0) pe_int (fun _ _ => rfl)))) pe_int) pe_int) pe_int))
      (pss_cons (ps_set (i := 3) sc_law_draw.nd rfl (.inl rfl) (pe_op op_mod (pe_op op_mul (pe_op op_mod (pe_op op_mul (pv 3) (pv 3)) pe_int) pe_int) pe_int))
      (pss_one (ps_ret (pe_op op_mod (pe_op op_fdiv (pv 3) pe_int) (pv 1)))))))), ?_⟩
    refine ⟨_, rfl, d, _, 2, _, rfl, rfl, SqL.of h1, rfl, k, 1, rfl, rfl, ?_⟩
    refine ⟨_, rfl, d, _, 2, 2, rfl, rfl, h1, rfl, ?_⟩
    have h2 : (upd H d (.lst [.int a, .int g, .int (k + 1), .int m])) d = some (.lst [.int a, .int g, .int (k + 1), .int m]) := upd_same
    have S1 : SmX d H (upd H d (.lst [.int a, .int g, .int (k + 1), .int m])) := (SmX.refl H).mut
    refine ⟨fun σ' H' => σ' = [some (.ref d), some (.int many), none, none] ∧ SmX d H H' ∧ H' d = some (.lst [.int a, .int g, .int (k + 1), .int m]), ?_, fun σ' H1 hM => ?_⟩
    · refine ⟨_, rfl, d, _, 1, _, rfl, rfl, SqL.of h2, rfl, rfl, _, rfl, ?_⟩
      refine ite2 (fun e => ?_) (fun e => ⟨rfl, S1, h2⟩)
      refine ⟨_, rfl, d, _, 0, _, rfl, rfl, SqL.of h2, rfl, _, _, rfl, rfl, _, rfl, ?_⟩
      refine ite2 (fun e => ?_) (fun e => ⟨rfl, S1, h2⟩)
      refine ⟨_, rfl, d, _, 0, _, rfl, rfl, SqL.of h2, rfl, _, rfl, _, _, rfl, rfl, hm0, ?_⟩
      refine ⟨_, rfl, d, _, 0, _, rfl, rfl, SqL.of h2, rfl, _, rfl, _, _, rfl, rfl, wide_div (b := 60) hm0 (by omega) (by decide) (by decide), ?_⟩
      refine ⟨_, rfl, d, _, 0, 0, rfl, rfl, h2, rfl, ?_⟩
      refine ⟨_, rfl, ?_⟩
      exact q _ _ (Int.emod_nonneg _ (by omega)) (Int.emod_lt_of_pos _ hm0) S1.mut ⟨a / many, g, k + 1, m, upd_same, Int.ediv_nonneg a0 (by omega), by omega, by omega, m0, m1⟩
    · obtain ⟨rfl, SM, h3⟩ := hM
      refine ⟨_, rfl, d, _, 3, _, rfl, rfl, SqL.of h3, rfl, _, rfl, d, _, 2, _, rfl, rfl, SqL.of h3, rfl, _, _, rfl, rfl, .inl ⟨by omega, by omega⟩, _, _, rfl, rfl, _, _, rfl, rfl, _, _, rfl, rfl, .inl ⟨by omega, by omega⟩, _, _, rfl, rfl, (by show (0 : Int) < _; decide), ?_⟩
      generalize hx : (m + 6997 * (k + 1) + 11) * 48271 % 2147483647 = x
      have x0 : 0 ≤ x := by omega
      have x1 : x < 2147483647 := by omega
      refine ⟨_, rfl, _, rfl, _, _, rfl, rfl, .inl ⟨by omega, by omega⟩, _, _, rfl, rfl, (by show (0 : Int) < _; decide), ?_⟩
      generalize hy : x * x % 2147483629 = y
      have y0 : 0 ≤ y := by omega
      have y1 : y < 2147483629 := by omega
      refine ⟨_, _, rfl, rfl, .inl ⟨by omega, by omega⟩, _, _, rfl, rfl, (by show (0 : Int) < _; decide), ?_⟩
      refine ⟨_, rfl, _, _, rfl, rfl, ⟨by decide, by decide⟩, _, rfl, _, _, rfl, rfl, hm0, ?_⟩
      exact q _ _ (Int.emod_nonneg _ (by omega)) (Int.emod_lt_of_pos _ hm0) SM ⟨a, g, k + 1, m, h3, a0, by omega, by omega, m0, m1⟩
end
abbrev s_law_length : Stmt := topS 19
abbrev N_law_length : List Str := ["seed", "kind"]
theorem sc_law_length : FnScope N_law_length ["seed", "kind"] (defScope s_law_length) := ⟨rfl, rfl, rfl, by decide +kernel, rfl, by decide +kernel, by decide +kernel⟩
section
variable {P : Program} {w : World} {K : PySem.W.Frag} {mg : Str → Option Value} {base : Heap}
def spLength : Sp := fun vs H Q _ => ∃ (d : Addr) (n : Nat) (kind : Int), vs = [.ref d, .int kind] ∧ SeedAt H d n ∧ n < 90000 ∧ 0 ≤ kind ∧ kind < 5 ∧ ∀ (H' : Hp) (r : Int), 1 ≤ r → r ≤ 1000000 → SmX d H H' → SeedAt H' d (n + 3) → Q (.int r) H'
theorem ok_length {f : Addr} {fd : FuncData} (F : Fun K "_law_length" "_law_length" s_law_length f fd) (C_law_draw : Cal P w K mg base 1 "_law_draw" spDraw) : FnOk P w K mg base CX0 2 f fd ["seed", "kind"] spLength := by
  refine F.ok sc_law_length (fun vs H Q E h => ?_) (fun cdv A outer s H vs Q E hr h => ?_)
  · obtain ⟨d, n, kind, rfl, _⟩ := h
    rfl
  · obtain ⟨d, n, kind, rfl, SD, hn, k0, k1, q⟩ := h
    refine ⟨_, (pss_one (ps_ret (pe_ix ix_list (pe_lst (pa_cons pe_int (pa_cons (pe_op op_add pe_int (pe_c C_law_draw hr (by decide) rfl (pa_cons (pv 0) (pa_cons pe_int pa_nil)))) (pa_cons (pe_op op_add pe_int (pe_c C_law_draw hr (by decide) rfl (pa_cons (pv 0) (pa_cons pe_int pa_nil)))) (pa_cons (pe_op op_add pe_int (pe_c C_law_draw hr (by decide) rfl (pa_cons (pv 0) (pa_cons (pe_op op_pow pe_int pe_int) pa_nil)))) (pa_cons pe_int pa_nil)))))) (pv 1) (fun _ _ => rfl)))), ?_⟩
    have e6 : (10 : Int) ^ (6 : Int).toNat = 1000000 := by decide
    refine ⟨_, rfl, d, n, 3, rfl, SD, by omega, by decide, by decide, fun H1 r1 a0 a1 S1 D1 => ⟨_, _, rfl, rfl, ?_⟩⟩
    refine ⟨_, rfl, d, _, 12, rfl, D1, by omega, by decide, by decide, fun H2 r2 b0 b1 S2 D2 => ⟨_, _, rfl, rfl, ?_⟩⟩
    refine ⟨_, rfl, _, _, rfl, rfl, ⟨by decide, by decide, by decide⟩, d, _, _, rfl, D2, by omega, by decide, by decide, fun H3 r3 c0 c1 S3 D3 => ⟨_, _, rfl, rfl, ?_⟩⟩
    refine ⟨(by show 5 ≤ sizeLine; decide), fun p np => ?_⟩
    obtain ⟨v, hv, mv⟩ := atI_in (xs := [V.int 1, .int (1 + r1), .int (1 + r2), .int (1 + r3), .int 2]) k0 (by simpa using k1)
    have hs : ∃ m : Int, v = .int m ∧ 1 ≤ m ∧ m ≤ 1000000 := by
      rw [e6] at c1
      simp only [List.mem_cons, List.not_mem_nil, or_false] at mv
      rcases mv with e | e | e | e | e
      · exact ⟨1, e, by omega, by omega⟩
      · exact ⟨_, e, by omega, by omega⟩
      · exact ⟨_, e, by omega, by omega⟩
      · exact ⟨_, e, by omega, by omega⟩
      · exact ⟨2, e, by omega, by omega⟩
    obtain ⟨m, rfl, m0, m1⟩ := hs
    refine ⟨_, rfl, p, _, kind, _, rfl, rfl, SqL.of upd_same, hv, ?_⟩
    exact q _ m m0 m1 (((S1.trans S2).trans S3).new np) (D3.new np)
end
end Far

namespace Far
open PySem PySem.Spec PyProof.Rows L2
/-! ### t[::-1], t a text -/
def revS (z : Str) : Str := ⟨z.cps.toList.reverse.toArray⟩
def tRevS (te : TE) : TE := fun σ H Q => te σ H fun x H1 => ∃ z, x = .str z ∧ z.length ≤ sizeLine ∧ Q (.str (revS z)) H1
theorem fm_congrS {α β : Type} {f g : α → Option β} : ∀ {l : List α}, (∀ x ∈ l, f x = g x) → l.filterMap f = l.filterMap g
  | [], _ => rfl
  | x :: r, h => by
    rw [List.filterMap_cons, List.filterMap_cons, h x (List.mem_cons_self ..), fm_congrS fun y hy => h y (List.mem_cons_of_mem _ hy)]
theorem back_allS {α : Type} : ∀ (l : List α), (List.range l.length).filterMap (fun m => l[l.length - 1 - m]?) = l.reverse := by
  intro l
  have h := PySem.W.krv_range l.length
  have e : (List.range l.length).filterMap (fun m => l[l.length - 1 - m]?) = ((List.range l.length).map fun k => l.length - 1 - k).filterMap (fun j => l[j]?) := by
    rw [List.filterMap_map]
    rfl
  rw [e, h, List.filterMap_reverse]
  congr 1
  have := PySem.W.krv_all l.toArray
  simpa using this
theorem revS_pick (z : Str) : (⟨((Builtin.Str.strSliceIndices none none (-1) z.length).filterMap (z.cps[·]?)).toArray⟩ : Str) = revS z := by
  unfold revS
  rw [picked_rev, List.filterMap_map, ← back_allS z.cps.toList]
  congr 2
  show _ = (List.range z.cps.toList.length).filterMap _
  rw [Array.length_toList]
  refine fm_congrS fun m hm => ?_
  rw [Array.getElem?_toList]
  rfl
theorem pe_revS {X : Cx} {e : Expr} {te : TE} {k : Nat} {p1 p2 p3 pos : Pos} (he : PE X e te) : PE X (.Subscript e (.Slice none none (some (.UnaryOp .USub (.Constant (.int 1) k p1) p2)) p3) pos) (tRevS te) := by
  refine ⟨fun pins s σ H Q I h => ?_⟩
  refine Subscript_ (thn (he.run pins s σ H _ I h) fun v s1 ⟨x, H1, I1, r1, q1⟩ => ?_)
  obtain ⟨z, ex, hz, q⟩ := q1
  subst ex
  obtain ⟨t, rfl⟩ := r1
  have hst : PO X (some (.UnaryOp .USub (.Constant (.int 1) k p1) p2)) (tPart (tUn (rU fun i => .int (-i)) (tC (.int 1)))) := po_some (pe_un un_neg pe_int)
  refine wpAny_Slice (thn (po_none.run pins s1 σ H1 (fun o H2 => o = none ∧ H2 = H1) I1 ⟨rfl, rfl⟩) fun vl s2 ⟨l, H2, I2, pl, el, e2⟩ => ?_)
  subst el e2
  refine thn (po_none.run pins s2 σ H2 (fun o H3 => o = none ∧ H3 = H2) I2 ⟨rfl, rfl⟩) fun vu s3 ⟨u, H3, I3, pu, eu, e3⟩ => ?_
  subst eu e3
  refine thn (hst.run pins s3 σ H3 (fun o H4 => o = some (-1) ∧ H4 = H3) I3 ⟨1, rfl, -1, rfl, rfl, rfl⟩) fun vs s4 ⟨o, H4, I4, ps, eo, e4⟩ => ?_
  subst eo e4
  have I5 : Inv X pins σ H4 { s4 with heap := s4.heap.push { cls := .type "slice", data := .fields #[vl, vu, vs] } } := I4.kept (t' := s4.toks) fun b ob q => Heap.get?_push_of_some _ q
  obtain ⟨l, rfl, hl⟩ := IsPart.raw pl
  obtain ⟨u, rfl, hu⟩ := IsPart.raw pu
  obtain ⟨y, rfl, hy⟩ := IsPart.raw ps
  show wpAny (model X.prog X.w) X.A (subscriptTail e (.Slice none none (some (.UnaryOp .USub (.Constant (.int 1) k p1) p2)) p3) (.str z t) (.ref s4.heap.objs.size)) (EP X pins σ Q) X.xe _
  refine tail_any (ops := [.str z t, .ref s4.heap.objs.size]) (typeIs_str _ _ _) (F.slot_str_getitem.lookup) ?_ (by with_unfolding_all rfl)
  have hl' : l = none := by cases l with
    | none => rfl
    | some _ => cases hl
  have hu' : u = none := by cases u with
    | none => rfl
    | some _ => cases hu
  obtain ⟨⟨y1, y2⟩, rfl⟩ : ∃ p, y = some p := by cases y with
    | none => cases hy
    | some p => exact ⟨p, rfl⟩
  have hy' : y1 = -1 := by
    have := Option.some.inj hy
    first | exact this | exact this.symm
  subst hl' hu' hy'
  refine wpAny_getItem_str_slice (l := none) (u := none) (st := some (-1, y2)) ⟨_, Heap.get?_push_size _ rfl, rfl, rfl⟩ rfl ?_
  show Made.post (if ((-1 : Int) == 1 && (Builtin.Str.strSliceIndices none none (-1) z.length).length == z.length) = true then Made.val (.str z t)
    else Made.str ⟨((Builtin.Str.strSliceIndices none none (-1) z.length).filterMap (z.cps[·]?)).toArray⟩) (EP X pins σ Q) _
  rw [if_neg (by simp), revS_pick]
  refine ⟨?_, .str _, H4, I5.tok _, ⟨_, rfl⟩, q⟩
  show z.cps.toList.reverse.toArray.size ≤ sizeLine
  rw [List.size_toArray, List.length_reverse, Array.length_toList]
  exact hz
end Far

namespace Far
open PySem PySem.Spec PyProof.Rows L2
open C8 (pss_cut tCut)
open SX (S)
/-! ### lists without an item twice -/
theorem nodup_sub_len {α : Type} [DecidableEq α] : ∀ (l m : List α), l.Nodup → (∀ x ∈ l, x ∈ m) → l.length ≤ m.length
  | [], _, _, _ => Nat.zero_le _
  | a :: r, m, h, hs => by
    obtain ⟨h1, h2⟩ := List.nodup_cons.mp h
    have ha : a ∈ m := hs a (List.mem_cons.mpr (.inl rfl))
    have ih := nodup_sub_len r (m.erase a) h2 fun x hx => by
      have ne : x ≠ a := fun e => h1 (e ▸ hx)
      exact (List.mem_erase_of_ne ne).mpr (hs x (List.mem_cons.mpr (.inr hx)))
    have hl := List.length_erase_of_mem ha
    have hp : 0 < m.length := List.length_pos_of_mem ha
    rw [List.length_cons]
    omega
theorem nd_snoc' {α : Type} {l : List α} {x : α} (h : l.Nodup) (hx : x ∉ l) : (l ++ [x]).Nodup := by
  rw [List.nodup_append]
  exact ⟨h, by simp, fun a ha b hb e => hx (by rw [← List.mem_singleton.mp hb, ← e]; exact ha)⟩

/-! ### texts as data -/
theorem strOk_S {l : List Nat} (h : NameOk l) : PyData.strOk (S l) = true := by
  show (l.toArray.all (· < 0x110000)) = true
  rw [← Array.all_toList, List.all_eq_true]
  intro c hc
  have := h.2.2 c hc
  exact decide_eq_true (by omega)
theorem inV_strs (l : List Nat) (ls : List (List Nat)) : inV (.str (S l)) ((ls.map S).map V.str) = decide (l ∈ ls) := by
  induction ls with
  | nil => rfl
  | cons a r ih =>
    show (S a == S l || inV (.str (S l)) ((r.map S).map V.str)) = _
    rw [ih, SX.S_beq_eq]
    by_cases e : a = l
    · subst e
      simp
    · have : l ≠ a := fun z => e z.symm
      simp [e, this]
theorem flat_strs (ls : List (List Nat)) : ((ls.map S).map V.str).all flatV = true := by
  induction ls with
  | nil => rfl
  | cons a r ih => exact ih
theorem strs_at {ls : List (List Nat)} {v : V} (h : v ∈ (ls.map S).map V.str) : ∃ l ∈ ls, v = .str (S l) := by
  obtain ⟨z, hz, rfl⟩ := List.mem_map.mp h
  obtain ⟨l, hl, rfl⟩ := List.mem_map.mp hz
  exact ⟨l, hl, rfl⟩
theorem dp_strs (K : PySem.W.Frag) (H : Hp) : ∀ ls : List (List Nat), DpAll K H ((ls.map S).map V.str) (ls.map fun l => PyData.str (S l))
  | [] => .nil
  | l :: r => .cons (.str _) (dp_strs K H r)
theorem lay_strs : ∀ {ls : List (List Nat)}, (∀ l ∈ ls, NameOk l) → PyData.canLayAll0 (ls.map fun l => PyData.str (S l)) = true
  | [], _ => rfl
  | l :: r, h => by
    show (PyData.strOk (S l) && PyData.canLayAll0 (r.map fun l => PyData.str (S l))) = true
    rw [strOk_S (h l (List.mem_cons.mpr (.inl rfl))), lay_strs fun x hx => h x (List.mem_cons.mpr (.inr hx))]
    rfl
theorem dep_strs : ∀ ls : List (List Nat), PyData.depthAll (ls.map fun l => PyData.str (S l)) = 0
  | [] => rfl
  | l :: r => by
    show max 0 (PyData.depthAll (r.map fun l => PyData.str (S l))) = 0
    rw [dep_strs r]
    rfl
theorem shaped_strs {ls : List (List Nat)} (h : ∀ l ∈ ls, NameOk l) : SeqAt.shaped (.list (ls.map fun l => PyData.str (S l))) = true := by
  show (PyData.canLayAll0 (ls.map fun l => PyData.str (S l)) && decide (PyData.depthAll (ls.map fun l => PyData.str (S l)) + 1 ≤ 64)) = true
  rw [lay_strs h, dep_strs]
  rfl

/-! ### names made otherwise -/
abbrev abc : Str := "abcdefghijklmnopqrstuvwxyz"
theorem abc_at : ∀ k : _root_.Fin 26, atI abc.cps.toList ((k.val : Nat) : Int) = some (97 + k.val) := by decide +kernel
theorem abc_ok : ∀ c ∈ abc.cps.toList, 97 ≤ c ∧ c ≤ 122 := by decide +kernel
theorem abc_len : abc.cps.toList.length = 26 := by decide +kernel
def cand (j : Nat) : List Nat := [97 + j / 26] ++ [97 + j % 26]
theorem cand_inj {i j : Nat} (h : cand i = cand j) : i = j := by
  unfold cand at h
  simp at h
  omega
theorem cand_ok {j : Nat} (hj : j < 600) : NameOk (cand j) := by
  refine ⟨by simp [cand], by simp [cand], fun c hc => ?_⟩
  unfold cand at hc
  simp at hc
  omega
/-- of the names tried so far all but the last are found already -/
structure Tried (ls : List (List Nat)) (t : Nat) (l : List Nat) : Prop where
  ok : NameOk l
  last : t ≠ 0 → l = cand (t - 1)
  old : ∀ j, j + 1 < t → cand j ∈ ls
theorem Tried.lt {ls : List (List Nat)} {t : Nat} {l : List Nat} (h : Tried ls t l) (hl : l ∈ ls) : t ≤ ls.length := by
  have sub : ∀ x ∈ (List.range t).map cand, x ∈ ls := fun x hx => by
    obtain ⟨j, hj, rfl⟩ := List.mem_map.mp hx
    have hj := List.mem_range.mp hj
    by_cases e : j + 1 < t
    · exact h.old j e
    · have e2 : j = t - 1 := by omega
      rw [e2, ← h.last (by omega)]
      exact hl
  have nd : ((List.range t).map cand).Nodup := by
    rw [List.Nodup, List.pairwise_map]
    exact (List.nodup_range (n := t)).imp fun ne e => ne (cand_inj e)
  have := nodup_sub_len _ ls nd sub
  rw [List.length_map, List.length_range] at this
  exact this
theorem Tried.next {ls : List (List Nat)} {t : Nat} {l : List Nat} (h : Tried ls t l) (hl : l ∈ ls) (h30 : ls.length < 100) : Tried ls (t + 1) (cand t) := by
  have hlt := h.lt hl
  refine ⟨cand_ok (by omega), fun _ => rfl, fun j hj => ?_⟩
  by_cases e : j + 1 < t
  · exact h.old j e
  · have e2 : j = t - 1 := by omega
    rw [e2, ← h.last (by omega)]
    exact hl
theorem revS_S (l : List Nat) : revS (S l) = S l.reverse := by
  show (⟨(l.toArray.toList.reverse).toArray⟩ : Str) = _
  rw [List.toList_toArray]
def NamesAt (H : Hp) (p : Addr) (ls : List (List Nat)) : Prop := H p = some (.lst ((ls.map S).map V.str))
end Far

namespace Far
open PySem PySem.Spec PyProof.Rows L2
open C8 (pss_cut tCut)
open SX (S)
abbrev s_law_name : Stmt := topS 18
abbrev N_law_name : List Str := ["seed", "names", "letters", "many", "name", "near", "at", "otherwise", "count", "k"]
theorem sc_law_name : FnScope N_law_name ["seed", "names"] (defScope s_law_name) := ⟨rfl, rfl, rfl, by decide +kernel, rfl, by decide +kernel, by decide +kernel⟩
section
variable {P : Program} {w : World} {K : PySem.W.Frag} {mg : Str → Option Value} {base : Heap}
def spName : Sp := fun vs H Q _ => ∃ (d a : Addr) (n : Nat) (ls : List (List Nat)), vs = [.ref d, .ref a] ∧ SeedAt H d n ∧ n < 80000 ∧ a ≠ d ∧ NamesAt H a ls ∧ ls.length < 100 ∧ (∀ l ∈ ls, NameOk l) ∧ ∀ (H' : Hp) (l : List Nat), NameOk l → l ∉ ls → SmX d H H' → SeedAt H' d (n + 20) → Q (.str (S l)) H'
theorem ok_name {f : Addr} {fd : FuncData} (F : Fun K "_law_name" "_law_name" s_law_name f fd) (T : TxtG mg) (C_law_draw : Cal P w K mg base 1 "_law_draw" spDraw) : FnOk P w K mg base CX0 2 f fd ["seed", "names"] spName := by
  refine F.ok sc_law_name (fun vs H Q E h => ?_) (fun cdv A outer s H vs Q E hr h => ?_)
  · obtain ⟨d, a, n, ls, rfl, _⟩ := h
    rfl
  · obtain ⟨d, a, n, ls, rfl, hD, hn, nad, hN, hl, ok, q⟩ := h
    refine ⟨_, (pss_cons (ps_set (i := 2) sc_law_name.nd rfl (.inr rfl) pe_str)
      (pss_cons (ps_set (i := 3) sc_law_name.nd rfl (.inl rfl) (pe_op op_add pe_int (pe_c C_law_draw hr (by decide) rfl (pa_cons (pv 0) (pa_cons (pe_ix ix_list (pe_lst (pa_cons pe_int (pa_cons pe_int (pa_cons pe_int pa_nil)))) (pe_c C_law_draw hr (by decide) rfl (pa_cons (pv 0) (pa_cons pe_int pa_nil))) (fun _ _ => rfl)) pa_nil)))))
      (pss_cons (ps_set (i := 4) sc_law_name.nd rfl (.inl rfl) (pe_join pe_str (pe_lc (own := [("k", 9)]) (g := gName 9) (tt := tYes) rfl sc_law_name.nd (pi_range1 (by rfl) T.range (pa_cons (pv 3) pa_nil)) (blkOk_by (N := N_law_name) (sc := defScope s_law_name) (by decide +kernel)) (fun _ _ _ _ _ => pg_name (i := 9) sc_law_name.nd rfl (Or.inl rfl)) (fun _ _ _ _ _ => pts_nil) (fun _ _ _ _ _ => (pe_ix ix_str (pv 2) (pe_c C_law_draw hr (by decide) rfl (pa_cons (pv 0) (pa_cons pe_int pa_nil))) (fun _ _ => rfl))))))
      (pss_cut (ps_if (PW.pt (pw_and (pt_cmpR (op_neD (hd_of hr (by decide))) (pv 1) (pe_lst pa_nil) (nomark _)) (pw_and1 (pt_cmpR op_eq (pe_c C_law_draw hr (by decide) rfl (pa_cons (pv 0) (pa_cons pe_int pa_nil))) pe_int (nomark _)))))
        (pss_cons (ps_set (i := 5) sc_law_name.nd rfl (.inl rfl) (pe_ix ix_list (pv 1) (pe_c C_law_draw hr (by decide) rfl (pa_cons (pv 0) (pa_cons (pe_callB call_len_seq (by rfl) T.len bt_len (pa_cons (pv 1) pa_nil)) pa_nil))) (fun _ _ => rfl)))
        (pss_cons (ps_set (i := 6) sc_law_name.nd rfl (.inl rfl) (pe_c C_law_draw hr (by decide) rfl (pa_cons (pv 0) (pa_cons (pe_callB call_len (by rfl) T.len bt_len (pa_cons (pv 5) pa_nil)) pa_nil))))
        (pss_cons (ps_set (i := 7) sc_law_name.nd rfl (.inl rfl) (pe_op op_add_str (pe_op op_add_str (pe_slice C8.sl_txt (pv 5) po_none (po_some (pv 6))) (pe_ix ix_str (pv 2) (pe_c C_law_draw hr (by decide) rfl (pa_cons (pv 0) (pa_cons pe_int pa_nil))) (fun _ _ => rfl))) (pe_slice C8.sl_txt (pv 5) (po_some (pe_op op_add (pv 6) pe_int)) po_none)))
        (pss_one (ps_set (i := 4) sc_law_name.nd rfl (.inl rfl) (pe_ix ix_list (pe_lst (pa_cons (pv 7) (pa_cons (pe_revS (pv 5)) (pa_cons (pe_slice C8.sl_txt (pe_op op_add_str (pv 5) (pv 4)) po_none (po_some pe_int)) pa_nil)))) (pe_c C_law_draw hr (by decide) rfl (pa_cons (pv 0) (pa_cons pe_int pa_nil))) (fun _ _ => rfl)))))))
        pss_nil)
      (pss_cons (ps_set (i := 8) sc_law_name.nd rfl (.inl rfl) pe_int)
      (pss_cut (ps_while PassesOwn.never (pt_cmpR op_in_seq (pv 4) (pv 1) rfl)
        (pss_cons (ps_set (i := 4) sc_law_name.nd rfl (.inl rfl) (pe_op op_add_str (pe_ix ix_str (pv 2) (pe_op op_fdiv (pv 8) pe_int) (fun _ _ => rfl)) (pe_ix ix_str (pv 2) (pe_op op_mod (pv 8) pe_int) (fun _ _ => rfl))))
        (pss_one (ps_set (i := 8) sc_law_name.nd rfl (.inl rfl) (pe_op op_add (pv 8) pe_int)))))
      (pss_one (ps_ret (pv 4))))))))), ?_⟩
    -- many
    refine ⟨_, rfl, (by show 3 ≤ sizeLine; decide), fun p np => ?_⟩
    have npd : p ≠ d := hD.nd np
    refine ⟨_, rfl, d, n, 3, rfl, hD.new np, by omega, by decide, by decide, fun H1 r r0 r1 S1 D1 => ?_⟩
    have hp : H1 p = some (.lst [.int 1, .int 2, .int 8]) := S1 p _ npd upd_same
    obtain ⟨v, hv, mv⟩ := atI_in (xs := [V.int 1, .int 2, .int 8]) r0 (by simpa using r1)
    have hs : ∃ sz : Int, v = .int sz ∧ 1 ≤ sz ∧ sz ≤ 8 := by
      simp only [List.mem_cons, List.not_mem_nil, or_false] at mv
      rcases mv with e | e | e <;> exact ⟨_, e, by omega, by omega⟩
    obtain ⟨sz, rfl, s1, s8⟩ := hs
    refine ⟨p, _, r, _, rfl, rfl, SqL.of hp, hv, ?_⟩
    have S01 : SmX d H H1 := fun b o nb hb => S1 b o nb (by rw [upd_ne (ne_of_none hb np)]; exact hb)
    refine ⟨d, n + 1, sz, rfl, D1, by omega, by omega, by omega, fun H2 r2 a0 a1 S2 D2 => ⟨_, _, rfl, rfl, ?_⟩⟩
    have S02 := S01.trans S2
    -- name
    refine ⟨⟨_, rfl⟩, _, rfl, 1 + r2, rfl, by omega, by omega, fun D nD => ?_⟩
    have nDd : D ≠ d := D2.nd nD
    refine lc_range (lo := 0) (n := (1 + r2).toNat) (fun i H' => ∃ cs : List Nat, cs.length = i ∧ (∀ c ∈ cs, 97 ≤ c ∧ c ≤ 122) ∧ H' D = some (.lst ((cs.map fun c => S [c]).map V.str)) ∧ SmX d H H' ∧ SeedAt H' d (n + 2 + i)) ⟨[], rfl, by simp, upd_same, S02.new nD, D2.new nD⟩ (fun i H' hi hP => ?_) (fun H' hP => ?_)
    · obtain ⟨cs, hlc, hc, hD', SM, DD⟩ := hP
      refine ⟨rfl, _, rfl, _, rfl, d, _, 26, rfl, DD, by omega, by decide, by decide, fun H4 r4 r40 r41 S4 D4 => ?_⟩
      obtain ⟨v, hv, mv⟩ := atI_in (xs := abc.cps.toList) r40 (by rw [abc_len]; exact r41)
      refine ⟨abc, r4, v, rfl, rfl, by decide, hv, ?_⟩
      refine ⟨_, S4 D _ nDd hD', by rw [List.length_map, List.length_map]; exact sz_lt (by omega), cs ++ [v], by simp [hlc], fun c hc' => ?_, ?_, (SM.trans S4).put ?_, ?_⟩
      · rcases List.mem_append.mp hc' with z | z
        · exact hc c z
        · rw [List.mem_singleton.mp z]
          exact abc_ok v mv
      · rw [upd_same, List.map_append, List.map_append]
        rfl
      · exact SmX.free S02 nD nDd
      · exact D4.put nDd
    · obtain ⟨cs, hlc, hc, hD', SM, DD⟩ := hP
      refine ⟨_, D, cs.map (fun c => S [c]), rfl, rfl, .inl (SqL.of hD'), ?_, ?_⟩
      · rw [one_sum']
        have : ((("" : Str)).length) = 0 := rfl
        rw [this, List.length_map]
        omega
      · have e : Txt.join ("" : Str) (cs.map fun c => S [c]) = S cs := by
          have := SX.join_S [] (cs.map fun c => [c])
          rw [List.map_map] at this
          rw [join_none, flat_one] at this
          exact this
        rw [e]
        have cok : NameOk cs := ⟨by omega, by omega, hc⟩
        have DD := DD.mono (m := n + 10) (by omega)
        clear hlc hD'
        -- the if
        refine ⟨fun σ1 H1 => ∃ (l : List Nat) (x5 x6 x7 : Option V), σ1 = [some (.ref d), some (.ref a), some (.str abc), some (.int (1 + r2)), some (.str (S l)), x5, x6, x7, none, none] ∧ NameOk l ∧ SmX d H H1 ∧ SeedAt H1 d (n + 20), ?_, fun σ1 H1 hM => ?_⟩
        · have hN1 : NamesAt H' a ls := SM a _ nad hN
          refine ⟨_, rfl, Nat.zero_le _, fun p2 np2 => ?_⟩
          have hN2 : NamesAt (upd H' p2 (.lst [])) a ls := by
            unfold NamesAt
            rw [upd_ne (ne_of_none hN1 np2)]
            exact hN1
          have D2 := DD.new (o := .lst []) np2
          have SM2 : SmX d H (upd H' p2 (.lst [])) := SM.new np2
          refine ⟨_, _, .lst (SqL.of hN2) (dp_strs _ _ ls), .lst (SqL.of upd_same) .nil, shaped_strs ok, rfl, _, rfl, ?_⟩
          refine ite2 (fun e1 => ?_) (fun e1 => ?_)
          · have pos : 0 < ls.length := by
              cases ls with
              | nil => exact absurd e1 (by decide)
              | cons a r => exact Nat.succ_pos _
            refine ⟨_, rfl, d, _, 3, rfl, D2, by omega, by decide, by decide, fun H3 r r0 r1 S3 D3 => ?_⟩
            have hN3 : NamesAt H3 a ls := S3 a _ nad hN2
            have SM3 : SmX d H H3 := SM2.trans S3
            refine ⟨rfl, _, rfl, ite2 (fun e2 => ?_) (fun e2 => ?_)⟩
            · -- near
              refine ⟨_, rfl, _, rfl, _, rfl, a, _, rfl, .inl (SqL.of hN3), d, _, _, rfl, D3, by omega, ?_, ?_, fun H4 r4 r40 r41 S4 D4 => ?_⟩
              · rw [List.length_map, List.length_map]
                omega
              · rw [List.length_map, List.length_map]
                omega
              have hN4 : NamesAt H4 a ls := S4 a _ nad hN3
              obtain ⟨v, hv, mv⟩ := atI_in r40 r41
              obtain ⟨l2, hl2, rfl⟩ := strs_at mv
              have ok2 := ok l2 hl2
              have h8 := ok2.2.1
              have h1 := ok2.1
              have c8 := cok.2.1
              refine ⟨a, _, r4, _, rfl, rfl, SqL.of hN4, hv, ?_⟩
              -- at
              refine ⟨_, rfl, _, rfl, .str (S l2), l2.length, rfl, ⟨by rw [SX.S_len]; exact sz_le (by omega), (SX.S_len _).symm⟩, d, _, _, rfl, D4, by omega, by omega, by omega, fun H5 r5 r50 r51 S5 D5 => ?_⟩
              -- otherwise
              refine ⟨_, rfl, _, rfl, r5, rfl, S l2, rfl, by rw [SX.S_len]; exact sz_le (by omega), ?_⟩
              refine ⟨_, rfl, _, rfl, d, _, 26, rfl, D5, by omega, by decide, by decide, fun H6 r6 r60 r61 S6 D6 => ?_⟩
              obtain ⟨sg, hsg, msg⟩ := atI_in (xs := abc.cps.toList) r60 (by rw [abc_len]; exact r61)
              have oks := abc_ok sg msg
              refine ⟨abc, r6, sg, rfl, rfl, by decide, hsg, ?_⟩
              have SM6 : SmX d H H6 := ((SM3.trans S4).trans S5).trans S6
              refine ⟨S (l2.take r5.toNat), S [sg], congrArg V.str (SX.slice_to r50), rfl, by rw [SX.S_len, SX.S_len, List.length_take, List.length_singleton]; exact sz_le (by omega), ?_⟩
              refine ⟨_, rfl, _, rfl, r5, 1, rfl, rfl, r5 + 1, rfl, S l2, rfl, by rw [SX.S_len]; exact sz_le (by omega), S (l2.take r5.toNat ++ [sg]), S (l2.drop (r5 + 1).toNat), congrArg V.str (SX.S_cat _ _), congrArg V.str (SX.slice_from (by omega)), by rw [SX.S_len, SX.S_len, List.length_append, List.length_take, List.length_drop, List.length_singleton]; exact sz_le (by omega), ?_⟩
              -- the three
              refine ⟨_, rfl, _, rfl, S l2, rfl, by rw [SX.S_len]; exact sz_le (by omega), ?_⟩
              refine ⟨_, rfl, _, rfl, S l2, S cs, rfl, rfl, by rw [SX.S_len, SX.S_len]; exact sz_le (by omega), 8, rfl, S (l2 ++ cs), congrArg V.str (SX.S_cat _ _), by rw [SX.S_len, List.length_append]; exact sz_le (by omega), by show 3 ≤ sizeLine; decide, fun p7 np7 => ?_⟩
              have np7d := D6.nd np7
              have D6' := D6.new (o := .lst [V.str (S (l2.take r5.toNat ++ [sg]) ++ S (l2.drop (r5 + 1).toNat)), .str (revS (S l2)), .str (Txt.slice (S (l2 ++ cs)) none (some 8))]) np7
              refine ⟨_, rfl, d, _, 3, rfl, D6', by omega, by decide, by decide, fun H7 r7 r70 r71 S7 D7 => ?_⟩
              have h7 := S7 p7 _ np7d upd_same
              have SM7 : SmX d H H7 := (SM6.new np7).trans S7
              obtain ⟨v, hv, mv⟩ := atI_in (xs := [V.str (S (l2.take r5.toNat ++ [sg]) ++ S (l2.drop (r5 + 1).toNat)), .str (revS (S l2)), .str (Txt.slice (S (l2 ++ cs)) none (some 8))]) r70 (by simpa using r71)
              have hs : ∃ l3 : List Nat, v = .str (S l3) ∧ NameOk l3 := by
                simp only [List.mem_cons, List.not_mem_nil, or_false] at mv
                rcases mv with e | e | e
                · refine ⟨l2.take r5.toNat ++ [sg] ++ l2.drop (r5 + 1).toNat, by rw [e, SX.S_cat], ?_, ?_, fun x hx => ?_⟩
                  · simp
                    omega
                  · simp
                    omega
                  · rcases List.mem_append.mp hx with z | z
                    · rcases List.mem_append.mp z with z | z
                      · exact ok2.2.2 x (List.mem_of_mem_take z)
                      · rw [List.mem_singleton.mp z]
                        exact oks
                    · exact ok2.2.2 x (List.mem_of_mem_drop z)
                · refine ⟨l2.reverse, by rw [e, revS_S], ?_, ?_, fun x hx => ok2.2.2 x (List.mem_reverse.mp hx)⟩
                  · rw [List.length_reverse]
                    omega
                  · rw [List.length_reverse]
                    omega
                · refine ⟨(l2 ++ cs).take 8, by rw [e, SX.slice_to (by decide)]; rfl, ?_, ?_, fun x hx => ?_⟩
                  · rw [List.length_take, List.length_append]
                    omega
                  · rw [List.length_take]
                    omega
                  · rcases List.mem_append.mp (List.mem_of_mem_take hx) with z | z
                    · exact ok2.2.2 x z
                    · exact hc x z
              obtain ⟨l3, rfl, ok3⟩ := hs
              refine ⟨p7, _, r7, _, rfl, rfl, SqL.of h7, hv, ?_⟩
              exact ⟨l3, _, _, _, rfl, ok3, SM7, D7.mono (by omega)⟩
            · exact ⟨cs, _, _, _, rfl, cok, SM3, D3.mono (by omega)⟩
          · exact ⟨cs, _, _, _, rfl, cok, SM2, D2.mono (by omega)⟩
        · -- the loop
          obtain ⟨l, x5, x6, x7, rfl, lok, SM1, DD1⟩ := hM
          have hN1 : NamesAt H1 a ls := SM1 a _ nad hN
          refine ⟨fun σ2 H2 => ∃ (l : List Nat) (x8 : Option V), σ2 = [some (.ref d), some (.ref a), some (.str abc), some (.int (1 + r2)), some (.str (S l)), x5, x6, x7, x8, none] ∧ NameOk l ∧ l ∉ ls ∧ H2 = H1, ?_, fun σ2 H2 hM => ?_⟩
          · refine ⟨fun m σ2 H2 => ∃ (l : List Nat) (t : Nat), σ2 = [some (.ref d), some (.ref a), some (.str abc), some (.int (1 + r2)), some (.str (S l)), x5, x6, x7, some (.int t), none] ∧ H2 = H1 ∧ Tried ls t l ∧ t + m = 200, ⟨200, l, 0, rfl, rfl, ⟨lok, fun z => absurd rfl z, fun j hj => absurd hj (by omega)⟩, rfl⟩, ?_⟩
            rintro m' σ2 H4 ⟨l, t, rfl, rfl, tr, em⟩
            refine ⟨_, rfl, _, rfl, a, _, rfl, .inl (SqL.of hN1), rfl, flat_strs ls, _, rfl, ?_⟩
            rw [inV_strs]
            refine ite2 (fun e2 => ?_) (fun e2 => ?_)
            · have hin : l ∈ ls := of_decide_eq_true e2
              have tl := tr.lt hin
              have nx := tr.next hin (by omega)
              refine ⟨fun σ' H'' => ∃ (l : List Nat) (t' : Nat), σ' = [some (.ref d), some (.ref a), some (.str abc), some (.int (1 + r2)), some (.str (S l)), x5, x6, x7, some (.int t'), none] ∧ H'' = H4 ∧ Tried ls t' l ∧ t' = t + 1, ?_, ?_⟩
              · rintro σ' H'' ⟨l', t', e1, e2', e3, e4⟩
                exact ⟨m' - 1, by omega, l', t', e1, e2', e3, by omega⟩
              have et : (t : Int) / 26 = (((t / 26 : Nat)) : Int) := by omega
              have em' : (t : Int) % 26 = (((t % 26 : Nat)) : Int) := by omega
              have a1 : atI abc.cps.toList ((t : Int) / 26) = some (97 + t / 26) := by
                rw [et]
                exact abc_at ⟨t / 26, by omega⟩
              have a2 : atI abc.cps.toList ((t : Int) % 26) = some (97 + t % 26) := by
                rw [em']
                exact abc_at ⟨t % 26, by omega⟩
              refine ⟨_, rfl, _, rfl, _, _, rfl, rfl, ⟨by decide, by decide⟩, abc, (t : Int) / 26, _, rfl, rfl, by decide, a1, ?_⟩
              refine ⟨_, rfl, _, rfl, _, _, rfl, rfl, (by show (0 : Int) < _; decide), abc, (t : Int) % 26, _, rfl, rfl, by decide, a2, ?_⟩
              refine ⟨S [97 + t / 26], S [97 + t % 26], rfl, rfl, by rw [SX.S_len, SX.S_len]; exact sz_le (by simp), ?_⟩
              refine ⟨_, rfl, _, _, rfl, rfl, ?_⟩
              refine ⟨cand t, t + 1, ?_, rfl, nx, rfl⟩
              show [some (V.ref d), some (V.ref a), some (V.str abc), some (V.int (1 + r2)), some (V.str (S [97 + t / 26] ++ S [97 + t % 26])), x5, x6, x7, some (V.int ((t : Int) + 1)), none] = _
              rw [SX.S_cat]
              rfl
            · exact ⟨l, _, rfl, tr.ok, fun z => e2 (decide_eq_true z), rfl⟩
          · obtain ⟨l, x8, rfl, lok, nin, rfl⟩ := hM
            exact ⟨_, rfl, q _ l lok nin SM1 DD1⟩
end
end Far

namespace Far
open PySem PySem.Spec PyProof.Rows L2
/-! ### xs[::e], xs a list, e tells 1 or -1 -/
def tStepL (K : PySem.W.Frag) (te ts : TE) : TE := fun σ H Q => te σ H fun x H1 => tPart ts σ H1 fun o H2 => ∃ a xs i, x = .ref a ∧ o = some i ∧ (i = 1 ∨ i = -1) ∧ SqL K H2 a xs ∧ ∀ p, H2 p = none → Q (.ref p) (upd H2 p (.lst (if i = 1 then xs else xs.reverse)))
theorem range_some {α : Type} : ∀ (l : List α), (List.range l.length).filterMap (fun m => l[m]?) = l
  | [] => rfl
  | a :: r => by
    rw [List.length_cons, List.range_succ_eq_map, List.filterMap_cons]
    show a :: ((List.range r.length).map Nat.succ).filterMap _ = _
    rw [List.filterMap_map]
    congr 1
    exact range_some r
theorem pick_one (items : Array Value) : slicePick items none none (some 1) = items := by
  have h := slicePick_cut items.toList none none
  have e : slicePick items none none (some 1) = slicePick items none none none := by rfl
  rw [e]
  rw [Array.toArray_toList] at h
  rw [h]
  have e1 : HT.sIx items.toList.length items.toList.length none = items.toList.length := rfl
  have e2 : HT.sIx items.toList.length 0 none = 0 := rfl
  rw [e1, e2, List.drop_zero, Nat.sub_zero, List.take_length, Array.toArray_toList]
theorem pe_stepL {X : Cx} {e st : Expr} {te ts : TE} {p3 pos : Pos} (he : PE X e te) (hs : PE X st ts) : PE X (.Subscript e (.Slice none none (some st) p3) pos) (tStepL X.K te ts) := by
  refine ⟨fun pins s σ H Q I h => ?_⟩
  refine Subscript_ (thn (he.run pins s σ H _ I h) fun v s1 ⟨x, H1, I1, r1, q1⟩ => ?_)
  have hst : PO X (some st) (tPart ts) := po_some hs
  refine wpAny_Slice (thn (po_none.run pins s1 σ H1 (fun o H2 => o = none ∧ H2 = H1) I1 ⟨rfl, rfl⟩) fun vl s2 ⟨l, H2, I2, pl, el, e2⟩ => ?_)
  subst el e2
  refine thn (po_none.run pins s2 σ H2 (fun o H3 => o = none ∧ H3 = H2) I2 ⟨rfl, rfl⟩) fun vu s3 ⟨u, H3, I3, pu, eu, e3⟩ => ?_
  subst eu e3
  refine thn (hst.run pins s3 σ H3 _ I3 q1) fun vs s4 ⟨o, H4, I4, ps, q2⟩ => ?_
  obtain ⟨a, xs, i, ex, eo, hi, hx, q⟩ := q2
  subst ex eo
  cases r1
  have I5 : Inv X pins σ H4 { s4 with heap := s4.heap.push { cls := .type "slice", data := .fields #[vl, vu, vs] } } := I4.kept (t' := s4.toks) fun b ob q => Heap.get?_push_of_some _ q
  obtain ⟨its, r, ht, hz⟩ := I5.list hx
  have hlen := r.length
  show wpAny (model X.prog X.w) X.A (subscriptTail e (.Slice none none (some st) p3) (.ref a) (.ref s4.heap.objs.size)) (EP X pins σ Q) X.xe { s4 with heap := s4.heap.push { cls := .type "slice", data := .fields #[vl, vu, vs] } }
  refine tail_any (ops := [.ref a, .ref s4.heap.objs.size]) ht.isList.typeIs (PySem.slot_list_getitem.lookup) ?_ (by with_unfolding_all rfl)
  refine wpAny_getItem_list_slice ht.isList (Heap.IsSliceOf.new _ vl vu vs) pl pu ps (by rcases hi with z | z <;> rw [z] <;> decide) ?_ (by rw [List.size_toArray]; omega)
  have q := q _ (I5.hok.fresh (Nat.le_refl _))
  rcases hi with z | z
  · subst z
    rw [if_pos rfl] at q
    rw [pick_one]
    refine ⟨.ref _, _, I5.laid (t' := s4.toks) (o := .lst xs) (fun b ob q => Heap.get?_push_of_some _ q) (Nat.le_refl _) ?_, rfl, q⟩
    exact ⟨hz, _, 0, r, Heap.get?_push_size _ rfl⟩
  · subst z
    rw [if_neg (by decide)] at q
    rw [PySem.W.krv_pick]
    refine ⟨.ref _, _, I5.laid (t' := s4.toks) (o := .lst xs.reverse) (fun b ob q => Heap.get?_push_of_some _ q) (Nat.le_refl _) ?_, rfl, q⟩
    exact ⟨by rw [List.length_reverse]; exact hz, _, 0, r.reverse, Heap.get?_push_size _ rfl⟩
end Far

namespace Far
open PySem PySem.Spec PyProof.Rows L2
open SX (S)
abbrev Nm := List Nat
abbrev Tie := Nm × Nm × Int
/-- places in an order in which each has one tie to those ahead; the ties in that order -/
inductive Grown : List Nm → List Tie → Prop
  | one (a : Nm) : Grown [a] []
  | leaf {os : List Nm} {es : List Tie} {a b : Nm} {k : Int} {e : Tie} : Grown os es → a ∈ os → b ∉ os → e = (a, b, k) ∨ e = (b, a, k) → 1 ≤ k → k ≤ 1000000 → Grown (os ++ [b]) (es ++ [e])
def IsTree (pl : List Nm) (ts : List Tie) : Prop := ∃ os es, Grown os es ∧ pl.Perm os ∧ ts.Perm es
theorem Grown.nodup {os : List Nm} {es : List Tie} (h : Grown os es) : os.Nodup := by
  induction h with
  | one a => simp
  | leaf _ _ hb _ _ _ ih => exact nd_snoc' ih hb
theorem Grown.len {os : List Nm} {es : List Tie} (h : Grown os es) : os.length = es.length + 1 := by
  induction h with
  | one a => rfl
  | leaf _ _ _ _ _ _ ih => rw [List.length_append, List.length_append, ih]; rfl
theorem Grown.ties {os : List Nm} {es : List Tie} (h : Grown os es) : ∀ e ∈ es, e.1 ∈ os ∧ e.2.1 ∈ os ∧ 1 ≤ e.2.2 ∧ e.2.2 ≤ 1000000 := by
  induction h with
  | one a => simp
  | leaf h1 ha hb he k1 k2 ih =>
    intro e hm
    rcases List.mem_append.mp hm with z | z
    · obtain ⟨a1, a2, a3⟩ := ih e z
      exact ⟨List.mem_append_left _ a1, List.mem_append_left _ a2, a3⟩
    · rw [List.mem_singleton.mp z]
      rcases he with e | e <;> rw [e] <;> simp [ha, k1, k2]
theorem IsTree.nodup {pl : List Nm} {ts : List Tie} (h : IsTree pl ts) : pl.Nodup := by
  obtain ⟨os, es, g, p, _⟩ := h
  exact p.nodup_iff.mpr g.nodup
theorem IsTree.len {pl : List Nm} {ts : List Tie} (h : IsTree pl ts) : pl.length = ts.length + 1 := by
  obtain ⟨os, es, g, p, q⟩ := h
  rw [p.length_eq, q.length_eq]
  exact g.len
theorem IsTree.ties {pl : List Nm} {ts : List Tie} (h : IsTree pl ts) : ∀ e ∈ ts, e.1 ∈ pl ∧ e.2.1 ∈ pl ∧ 1 ≤ e.2.2 ∧ e.2.2 ≤ 1000000 := by
  obtain ⟨os, es, g, p, q⟩ := h
  intro e he
  obtain ⟨a, b, c⟩ := g.ties e (q.mem_iff.mp he)
  exact ⟨p.mem_iff.mpr a, p.mem_iff.mpr b, c⟩

/-! ### as data -/
def tieD (t : Tie) : PyData := .tuple [.str (S t.1), .str (S t.2.1), .int t.2.2]
def strD (l : Nm) : PyData := .str (S l)
def treeD (pl : List Nm) (ts : List Tie) : PyData := .tuple [.tuple (pl.map strD), .tuple (ts.map tieD)]
/-- tuples stand as they stood -/
structure TK (H H' : Hp) : Prop where
  tup : ∀ b xs, H b = some (.tup xs) → H' b = some (.tup xs)
  frz : ∀ b o xs, H b = some (.frz o (.tup xs)) → H' b = some (.frz o (.tup xs))
theorem TK.refl (H : Hp) : TK H H := ⟨fun _ _ h => h, fun _ _ _ h => h⟩
theorem TK.trans {H H1 H2 : Hp} (a : TK H H1) (b : TK H1 H2) : TK H H2 := ⟨fun x o h => b.tup x o (a.tup x o h), fun x o u h => b.frz x o u (a.frz x o u h)⟩
theorem TK.of {H H' : Hp} (a : Same H H') : TK H H' := ⟨fun x _ h => a x _ h, fun x _ _ h => a x _ h⟩
theorem TK.new {H : Hp} {p : Addr} {o : HO} (n : H p = none) : TK H (upd H p o) :=
  ⟨fun b xs h => by rw [upd_ne (ne_of_none h n)]; exact h, fun b u xs h => by rw [upd_ne (ne_of_none h n)]; exact h⟩
theorem TK.mut {H : Hp} {p : Addr} {o : HO} {xs : List V} (n : H p = some (.lst xs)) : TK H (upd H p o) :=
  ⟨fun b ys h => by rw [upd_ne (ne_of h n (by intro z; cases z))]; exact h, fun b u ys h => by rw [upd_ne (ne_of h n (by intro z; cases z))]; exact h⟩
theorem SmX.tk {d : Addr} {H H' : Hp} {xs : List V} (s : SmX d H H') (n : H d = some (.lst xs)) : TK H H' :=
  ⟨fun b ys h => s b _ (ne_of h n (by intro z; cases z)) h, fun b u ys h => s b _ (ne_of h n (by intro z; cases z)) h⟩
theorem DeckAt.lst {H : Hp} {d c : Addr} {n : Nat} (h : DeckAt H d c n) : ∃ xs, H d = some (.lst xs) := by
  obtain ⟨_, _, _, _, _, h1, _⟩ := h
  exact ⟨_, h1⟩
theorem DeckAt.tk {H H' : Hp} {d c : Addr} {n : Nat} (h : DeckAt H d c n) (s : SmX d H H') : TK H H' := by
  obtain ⟨xs, e⟩ := h.lst
  exact s.tk e
mutual
/-- a value that never changes: none, truths, numbers, texts, tuples of such -/
inductive Dt (H : Hp) : V → PyData → Prop
  | non : Dt H .non .none
  | bl (b : Bool) : Dt H (.bl b) (.bool b)
  | int (i : Int) : Dt H (.int i) (.int i)
  | str (x : Str) : Dt H (.str x) (.str x)
  | tup {a : Addr} {xs : List V} {ds : List PyData} : H a = some (.tup xs) → DtAll H xs ds → Dt H (.ref a) (.tuple ds)
  /-- a tuple of texts that is known to have no dict of its own -/
  | tupZ {a : Addr} {pl : List Nm} {ds : List PyData} {o : Obj} : ds = pl.map strD → pl ≠ [] → o.dict = none → H a = some (.frz o (.tup ((pl.map S).map V.str))) → Dt H (.ref a) (.tuple ds)
inductive DtAll (H : Hp) : List V → List PyData → Prop
  | nil : DtAll H [] []
  | cons {v : V} {vs : List V} {d : PyData} {ds : List PyData} : Dt H v d → DtAll H vs ds → DtAll H (v :: vs) (d :: ds)
end
mutual
theorem Dt.keep {H H' : Hp} (t : TK H H') : ∀ {v : V} {d : PyData}, Dt H v d → Dt H' v d
  | _, _, .non => .non
  | _, _, .bl b => .bl b
  | _, _, .int i => .int i
  | _, _, .str x => .str x
  | _, _, .tup a b => .tup (t.tup _ _ a) (DtAll.keep t b)
  | _, _, .tupZ e n d a => .tupZ e n d (t.frz _ _ _ a)
theorem DtAll.keep {H H' : Hp} (t : TK H H') : ∀ {vs : List V} {ds : List PyData}, DtAll H vs ds → DtAll H' vs ds
  | _, _, .nil => .nil
  | _, _, .cons a b => .cons (Dt.keep t a) (DtAll.keep t b)
end
theorem dpa_strs {K : PySem.W.Frag} (H : Hp) : ∀ ls : List Nm, DpAll K H ((ls.map S).map V.str) (ls.map strD)
  | [] => .nil
  | _ :: r => .cons (.str _) (dpa_strs H r)
mutual
theorem Dt.dp {K : PySem.W.Frag} {H : Hp} : ∀ {v : V} {d : PyData}, Dt H v d → Dp K H v d
  | _, _, .non => .non
  | _, _, .bl b => .bl b
  | _, _, .int i => .int i
  | _, _, .str x => .str x
  | _, _, .tup a b => .tup (.inl (.inl a)) (DtAll.dp b)
  | _, _, .tupZ (pl := pl) (o := o) e _ _ a => e ▸ .tup (.inl (.inr ⟨o, a⟩)) (dpa_strs H pl)
theorem DtAll.dp {K : PySem.W.Frag} {H : Hp} : ∀ {vs : List V} {ds : List PyData}, DtAll H vs ds → DpAll K H vs ds
  | _, _, .nil => .nil
  | _, _, .cons a b => .cons (Dt.dp a) (DtAll.dp b)
end
theorem DtAll.len {H : Hp} : ∀ {vs : List V} {ds : List PyData}, DtAll H vs ds → vs.length = ds.length
  | _, _, .nil => rfl
  | _, _, .cons _ t => congrArg (· + 1) (DtAll.len t)
theorem DtAll.app {H : Hp} : ∀ {vs ws : List V} {ds es : List PyData}, DtAll H vs ds → DtAll H ws es → DtAll H (vs ++ ws) (ds ++ es)
  | _, _, _, _, .nil, h => h
  | _, _, _, _, .cons a t, h => .cons a (DtAll.app t h)
theorem DtAll.get {H : Hp} : ∀ {vs : List V} {ds : List PyData} {i : Nat} {v : V}, DtAll H vs ds → vs[i]? = some v → ∃ d, ds[i]? = some d ∧ Dt H v d
  | _, _, _, _, .nil, e => by simp at e
  | _, _, 0, _, .cons a _, e => by
    simp at e
    subst e
    exact ⟨_, rfl, a⟩
  | _, _, i + 1, _, .cons _ t, e => by
    obtain ⟨d, h1, h2⟩ := DtAll.get (i := i) t (by simpa using e)
    exact ⟨d, by simpa using h1, h2⟩
theorem DtAll.del {H : Hp} : ∀ {vs : List V} {ds : List PyData} (i : Nat), DtAll H vs ds → DtAll H (vs.eraseIdx i) (ds.eraseIdx i)
  | _, _, _, .nil => .nil
  | _, _, 0, .cons _ t => t
  | _, _, i + 1, .cons a t => .cons a (DtAll.del i t)
theorem DtAll.strs {H : Hp} : ∀ {ls : List Nm} {vs : List V}, DtAll H vs (ls.map strD) → vs = (ls.map S).map V.str
  | [], _, .nil => rfl
  | l :: r, _, .cons (.str _) t => by
    rw [DtAll.strs (ls := r) t]
    rfl
theorem dt_strs (H : Hp) : ∀ ls : List Nm, DtAll H ((ls.map S).map V.str) (ls.map strD)
  | [] => .nil
  | _ :: r => .cons (.str _) (dt_strs H r)
theorem perm_erase {α : Type} : ∀ {l : List α} {k : Nat} {x : α}, l[k]? = some x → (x :: l.eraseIdx k).Perm l
  | [], _, _, e => by simp at e
  | a :: r, 0, x, e => by
    simp at e
    subst e
    exact .refl _
  | a :: r, k + 1, x, e => by
    have ih := perm_erase (l := r) (k := k) (x := x) (by simpa using e)
    show (x :: a :: r.eraseIdx k).Perm (a :: r)
    exact (List.Perm.swap a x _).trans (ih.cons a)
theorem perm_pick {α : Type} {l1 l2 m : List α} {x : α} {k : Nat} (h : (l1 ++ l2).Perm m) (e : l2[k]? = some x) : ((l1 ++ [x]) ++ l2.eraseIdx k).Perm m := by
  rw [List.append_assoc]
  exact ((List.Perm.refl l1).append (perm_erase e)).trans h
theorem map_erase {α β : Type} (f : α → β) : ∀ (l : List α) (k : Nat), (l.map f).eraseIdx k = (l.eraseIdx k).map f
  | [], _ => rfl
  | _ :: _, 0 => rfl
  | a :: r, k + 1 => congrArg (f a :: ·) (map_erase f r k)
/-- a tuple of texts: of this heap, or one known through and through -/
def TupAt (H : Hp) (a : Addr) (xs : List V) : Prop := H a = some (.tup xs) ∨ ∃ o : Obj, o.dict = none ∧ H a = some (.frz o (.tup xs))
theorem TupAt.sq {K : PySem.W.Frag} {H : Hp} {a : Addr} {xs : List V} (h : TupAt H a xs) : SqT K H a xs := h.elim (fun h => .inl (.inl h)) fun ⟨o, _, h⟩ => .inl (.inr ⟨o, h⟩)
theorem TupAt.ne {H : Hp} {a p : Addr} {xs : List V} (h : TupAt H a xs) (n : H p = none) : a ≠ p := h.elim (fun h => ne_of_none h n) fun ⟨_, _, h⟩ => ne_of_none h n
theorem TupAt.same {H H' : Hp} {a : Addr} {xs : List V} (h : TupAt H a xs) (s : Same H H') : TupAt H' a xs := h.elim (fun h => .inl (s _ _ h)) fun ⟨o, d, h⟩ => .inr ⟨o, d, s _ _ h⟩
theorem TupAt.upd {H : Hp} {a p : Addr} {xs : List V} {o : HO} (h : TupAt H a xs) (n : H p = none) : TupAt (L2.upd H p o) a xs := h.elim (fun q => .inl (by rw [upd_ne (ne_of_none q n)]; exact q)) fun ⟨u, d, q⟩ => .inr ⟨u, d, by rw [upd_ne (ne_of_none q n)]; exact q⟩
theorem TupAt.updN {H : Hp} {a p : Addr} {xs : List V} {o : HO} (h : TupAt H a xs) (n : a ≠ p) : TupAt (L2.upd H p o) a xs := h.elim (fun q => .inl (by rw [upd_ne n]; exact q)) fun ⟨u, d, q⟩ => .inr ⟨u, d, by rw [upd_ne n]; exact q⟩
end Far

namespace Far
open PySem PySem.Spec PyProof.Rows L2
section
variable {X : Cx} {a o e : Expr} {ta to te : TE}
/-- tuple(xs) of a list, the new tuple known through and through -/
def tTupZ (K : PySem.W.Frag) (ta : TE) : TE := fun σ H Q => ta σ H fun x H1 => ∃ (l : Addr) (xs : List V), x = .ref l ∧ SqL K H1 l xs ∧ ∀ (p : Addr) (o : Obj), H1 p = none → o.dict = none → Q (.ref p) (upd H1 p (.frz o (.tup xs)))
theorem pe_tupleZ {p pos : Pos} (hg : Gl X "tuple") (hm : X.mg "tuple" = none) (ha : PE X a ta) (na : starEach [a] X.env = (false, eval a X.env) :: starEach [] X.env := by rfl) : PE X (.Call (.Name "tuple" p) [a] [] pos) (tTupZ X.K ta) := by
  refine ⟨fun pins s σ H Q I h => ?_⟩
  refine Call_ (ld_blt I hg hm bt_tuple (PyProof.Rows.callWith_type1 (one_arg ha I h (fun v s2 x H2 I2 r q => ?_) na) na))
  obtain ⟨l, xs, rfl, hq, q⟩ := q
  cases r
  obtain ⟨its, rv, pl, hz⟩ := I2.list hq
  refine call_tuple_list pl.isList (fun h' k => ?_) (by rw [List.size_toArray, ← rv.length]; exact hz)
  have I3 : Inv X pins σ H2 { s2 with heap := h' } := I2.kept (t' := s2.toks) k
  have new : (h'.push { cls := .type "tuple", data := .seq its.toArray }).get? h'.objs.size = some ({ cls := .type "tuple", data := .seq its.toArray } : Obj) := Heap.get?_push_size _ rfl
  exact ⟨.ref h'.objs.size, _, I3.laid (t' := s2.toks) (o := .frz { cls := .type "tuple", data := .seq its.toArray } (.tup xs)) (fun b o e => Heap.get?_push_of_some _ e) (Nat.le_refl _)
    (show ObjOk X.prog X.w _ _ _ (.frz _ (.tup xs)) from ⟨new, hz, its, rv, IsTup.new _ _⟩), rfl, q _ _ (I3.hok.fresh (Nat.le_refl _)) rfl⟩
/-- t.index(x), the first place, of a tuple of texts known through and through -/
def tIxZ (to te : TE) : TE := fun σ H Q => to σ H fun x H1 => ∃ (p : Addr) (ys : List Str) (u : Obj), x = .ref p ∧ u.dict = none ∧ H1 p = some (.frz u (.tup (ys.map V.str))) ∧ te σ H1 fun y H2 => H2 p = H1 p ∧ ∃ (z : Str) (j : Nat), y = .str z ∧ ys[j]? = some z ∧ (∀ m, m < j → ys[m]? ≠ some z) ∧ Q (.int (j : Nat)) H2
theorem pe_ixZ {apos cpos : Pos} (ho : PE X o to) (he : PE X e te) (hbase : attributeBase o "index" X.env (eval o X.env) = eval o X.env := by rfl)
    (hfew : ((backTo cpos (starEach [e] X.env)).all (fun x => !x.1) && (backToKw cpos (keywordEach [] X.env)).all (fun x => x.1.isSome)
      && decide ([e].length + ([] : List Keyword).length + (if ([] : List Keyword).isEmpty then 0 else 1) < 30)) = true := by rfl)
    (hline : (apos.endLine == cpos.line) = true := by rfl) (na : starEach [e] X.env = (false, eval e X.env) :: starEach [] X.env := by rfl) :
    PE X (.Call (.Attribute o "index" apos) [e] [] cpos) (tIxZ to te) := by
  refine ⟨fun pins s σ H Q I h => ?_⟩
  refine wpAny_Call_method_late hbase hfew hline rfl (thn (ho.run pins s σ H _ I h) fun v s1 ⟨x, H1, I1, r1, q1⟩ => ?_)
  obtain ⟨p, ys, u, rfl, hd, hp, q1⟩ := q1
  cases r1
  have fz : ObjOk X.prog X.w H1 s1.heap p (.frz u (.tup (ys.map V.str))) := I1.hok p _ hp
  obtain ⟨hu, hz, its, rv, it⟩ := fz
  refine ⟨"tuple", "tuple.index", PySem.F.plainAttrs_tuple, PySem.F.slot_tuple_index, PySem.F.type_tuple_index, it.typeIs, fun c e => by cases e; exact ⟨u, hu, hd⟩, ?_⟩
  have hA : wpAny (model X.prog X.w) X.A (spliced (backTo cpos (starEach [e] X.env))) (fun us s2 => wpAny (model X.prog X.w) X.A (call (.builtin "tuple.index") (.ref p :: us)) (EP X pins σ Q) X.xe s2) X.xe s1 :=
    one_arg he I1 q1 (fun y s2 x H2 I2 r2 q2 => by
      obtain ⟨same, z, j, rfl, hj, hno, q⟩ := q2
      exact mt_tup_index pins s2 σ H2 (.ref p) [.str z] (.ref p) [y] Q I2 rfl (.cons r2 .nil) ⟨p, ys, z, j, rfl, rfl, .inl (.inr ⟨u, same.trans hp⟩), hj, hno, q⟩) na
  rw [na] at hA ⊢
  exact Calls.callWith_builtin (by rfl) (Calls.evalArgs_plain hA)
/-- (a, b, ..), the new tuple known through and through -/
def tTupD (ta : TA) : TE := fun σ H Q => ta σ H fun xs H1 => xs.length ≤ sizeLine ∧ ∀ (p : Addr) (o : Obj), H1 p = none → o.dict = none → Q (.ref p) (upd H1 p (.frz o (.tup xs)))
theorem pe_tupD {es : List Expr} {x1 : Nat} {pos : Pos} {t : TA} (h : PA X es t) : PE X (.Tuple es x1 pos) (tTupD t) := by
  refine ⟨fun pins s σ H Q I hq => ?_⟩
  refine wpAny_Tuple_spliced (thn (h.run pos pins s σ H _ I hq) fun us s1 ⟨xs, H1, I1, r, z, q⟩ => ⟨by rw [← r.length]; exact z, ?_⟩)
  have hf : H1 s1.heap.objs.size = none := I1.hok.fresh (Nat.le_refl _)
  have new : (s1.heap.push { cls := .type "tuple", data := .seq us.toArray }).get? s1.heap.objs.size = some ({ cls := .type "tuple", data := .seq us.toArray } : Obj) := Heap.get?_push_size _ rfl
  refine ⟨.ref s1.heap.objs.size, upd H1 s1.heap.objs.size (.frz { cls := .type "tuple", data := .seq us.toArray } (.tup xs)), I1.laid (t' := s1.toks) (fun b u e => Heap.get?_push_of_some _ e) (Nat.le_refl _) ?_, rfl, q _ _ hf rfl⟩
  exact (show ObjOk X.prog X.w _ _ _ (.frz _ (.tup xs)) from ⟨new, z, us, r, IsTup.new _ _⟩)
end
end Far

namespace Far
open PySem PySem.Spec PyProof.Rows L2
open C8 (pss_cut tCut)
open SX (S)
abbrev s_law_tree : Stmt := topS 20
abbrev N_law_tree : List Str := ["seed", "most", "many", "shape", "kind", "names", "ties", "k", "order", "near", "at", "pair"]
theorem sc_law_tree : FnScope N_law_tree ["seed", "most"] (defScope s_law_tree) := ⟨rfl, rfl, rfl, by decide +kernel, rfl, by decide +kernel, by decide +kernel⟩
def iV (j : Nat) : V := .int j
theorem rgV_nat (n : Nat) : rgV 0 (n : Int) = (List.range n).map iV := by
  unfold rgV
  rw [show ((n : Int) - 0).toNat = n by omega]
  refine List.map_congr_left fun i _ => ?_
  show V.int (0 + (i : Int)) = V.int i
  rw [Int.zero_add]
theorem getD_range : ∀ ls : List Nm, (List.range ls.length).map (fun j => ls.getD j []) = ls
  | [] => rfl
  | a :: r => by
    rw [List.length_cons, List.range_succ_eq_map, List.map_cons, List.map_map]
    congr 1
    exact getD_range r
/-- the names in the order told -/
def inOrd (ls : List Nm) (js : List Nat) : List Nm := js.map fun j => ls.getD j []
theorem inOrd_perm {ls : List Nm} {js : List Nat} (h : js.Perm (List.range ls.length)) : (inOrd ls js).Perm ls := by
  have := h.map fun j => ls.getD j []
  rwa [getD_range] at this
theorem inOrd_at {ls : List Nm} {js : List Nat} (h : js.Perm (List.range ls.length)) {a : Nat} (ha : a < ls.length) : ∃ (j : Nat) (x : Nm), (js.map iV)[a]? = some (.int j) ∧ ((ls.map S).map V.str)[j]? = some (.str (S x)) ∧ (inOrd ls js)[a]? = some x := by
  have hl : js.length = ls.length := by rw [h.length_eq, List.length_range]
  have h1 : js[a]? = some (js[a]'(by omega)) := List.getElem?_eq_getElem (by omega)
  generalize js[a]'(by omega) = j at h1
  have hj : j < ls.length := List.mem_range.mp (h.mem_iff.mp (List.mem_of_getElem? h1))
  refine ⟨j, ls[j], by rw [List.getElem?_map, h1]; rfl, by rw [List.getElem?_map, List.getElem?_map, List.getElem?_eq_getElem hj]; rfl, ?_⟩
  unfold inOrd
  rw [List.getElem?_map, h1]
  show some (ls.getD j []) = _
  simp [List.getD, hj]
theorem perm_insert {α : Type} {l m : List α} {x : α} (k : Nat) (h : l.Perm m) : (l.take k ++ [x] ++ l.drop k).Perm (m ++ [x]) := by
  have e : (l.take k ++ [x] ++ l.drop k).Perm (x :: l) := by
    rw [List.append_assoc]
    have := List.perm_middle (a := x) (l₁ := l.take k) (l₂ := l.drop k)
    rw [List.take_append_drop] at this
    exact this
  exact (e.trans (h.cons x)).trans (List.perm_append_singleton x m).symm
theorem DtAll.ins {H : Hp} {vs : List V} {ds : List PyData} {v : V} {d : PyData} (k : Nat) (h : DtAll H vs ds) (hv : Dt H v d) : DtAll H (vs.take k ++ [v] ++ vs.drop k) (ds.take k ++ [d] ++ ds.drop k) := by
  have ht : ∀ (k : Nat) {vs : List V} {ds : List PyData}, DtAll H vs ds → DtAll H (vs.take k) (ds.take k) ∧ DtAll H (vs.drop k) (ds.drop k) := by
    intro k
    induction k with
    | zero => exact fun h => ⟨.nil, h⟩
    | succ k ih =>
      intro vs ds h
      cases h with
      | nil => exact ⟨.nil, .nil⟩
      | cons a t => exact ⟨.cons a (ih t).1, (ih t).2⟩
  exact ((ht k h).1.app (.cons hv .nil)).app (ht k h).2
theorem SeedAt.tk {H H' : Hp} {d : Addr} {n : Nat} (h : SeedAt H d n) (s : SmX d H H') : TK H H' := by
  obtain ⟨xs, e⟩ := h.lst
  exact s.tk e
theorem seq_ix {r : Int} {n : Nat} (h0 : 0 ≤ r) (h1 : r < n) : seqIndex? r n = some r.toNat := by
  refine (ixN_seq (j := r.toNat) ?_).1
  unfold ixN
  rw [if_pos h0, if_pos h1]
/-- within the making of a tree: the names at p, the ties so far at t -/
structure Tr (H H' : Hp) (d p t : Addr) (n : Nat) (ls : List Nm) (tvs : List V) (ts : List Tie) : Prop where
  nm : NamesAt H' p ls
  tt : H' t = some (.lst tvs)
  al : DtAll H' tvs (ts.map tieD)
  sm : SmX d H H'
  dk : SeedAt H' d n
theorem Tr.new {H H' : Hp} {d p t q : Addr} {n : Nat} {ls : List Nm} {tvs : List V} {ts : List Tie} {o : HO} (x : Tr H H' d p t n ls tvs ts) (nq : H' q = none) : Tr H (upd H' q o) d p t n ls tvs ts :=
  ⟨by unfold NamesAt; rw [upd_ne (ne_of_none x.nm nq)]; exact x.nm, by rw [upd_ne (ne_of_none x.tt nq)]; exact x.tt, DtAll.keep (TK.new nq) x.al, x.sm.new nq, x.dk.new nq⟩
theorem Tr.step {H H' H'' : Hp} {d p t : Addr} {n m : Nat} {ls : List Nm} {tvs : List V} {ts : List Tie} (x : Tr H H' d p t n ls tvs ts) (npd : p ≠ d) (ntd : t ≠ d) (s : SmX d H' H'') (D : SeedAt H'' d m) : Tr H H'' d p t m ls tvs ts :=
  ⟨s p _ npd x.nm, s t _ ntd x.tt, DtAll.keep (x.dk.tk s) x.al, x.sm.trans s, D⟩
theorem Tr.put {H H' : Hp} {d p t q : Addr} {n : Nat} {ls : List Nm} {tvs xs : List V} {ts : List Tie} {o : HO} (x : Tr H H' d p t n ls tvs ts) (np : q ≠ p) (nt : q ≠ t) (nd : q ≠ d) (n0 : H q = none) (hq : H' q = some (.lst xs)) : Tr H (upd H' q o) d p t n ls tvs ts :=
  ⟨by unfold NamesAt; rw [upd_ne np.symm]; exact x.nm, by rw [upd_ne nt.symm]; exact x.tt, DtAll.keep (TK.mut hq) x.al, x.sm.put n0, x.dk.put nd⟩
theorem Tr.mono {H H' : Hp} {d p t : Addr} {n m : Nat} {ls : List Nm} {tvs : List V} {ts : List Tie} (x : Tr H H' d p t n ls tvs ts) (h : n ≤ m) : Tr H H' d p t m ls tvs ts := ⟨x.nm, x.tt, x.al, x.sm, x.dk.mono h⟩
section
variable {P : Program} {w : World} {K : PySem.W.Frag} {mg : Str → Option Value} {base : Heap}
/-- the tree's places stand as a tuple that is known through and through -/
def PlZ (H : Hp) (v : V) (pl : List Nm) : Prop := ∃ (t a b : Addr) (o : Obj), v = .ref t ∧ H t = some (.tup [.ref a, .ref b]) ∧ o.dict = none ∧ H a = some (.frz o (.tup ((pl.map S).map V.str)))
theorem PlZ.same {H H' : Hp} {v : V} {pl : List Nm} (h : PlZ H v pl) (s : Same H H') : PlZ H' v pl := by
  obtain ⟨t, a, b, o, e, h1, h2, h3⟩ := h
  exact ⟨t, a, b, o, e, s _ _ h1, h2, s _ _ h3⟩
theorem PlZ.keep {H H' : Hp} {v : V} {pl : List Nm} (h : PlZ H v pl) (s : TK H H') : PlZ H' v pl := by
  obtain ⟨t, a, b, o, e, h1, h2, h3⟩ := h
  exact ⟨t, a, b, o, e, s.tup _ _ h1, h2, s.frz _ _ _ h3⟩
def spTree : Sp := fun vs H Q _ => ∃ (d : Addr) (n : Nat) (most : Nat), vs = [.ref d, .int most] ∧ SeedAt H d n ∧ n < 70000 ∧ 1 ≤ most ∧ most ≤ 30 ∧ ∀ (H' : Hp) (t : Addr) (pl : List Nm) (ts : List Tie), IsTree pl ts → (∀ l ∈ pl, NameOk l) → pl.length ≤ most → Dt H' (.ref t) (treeD pl ts) → PlZ H' (.ref t) pl → SmX d H H' → SeedAt H' d (n + 1000) → Q (.ref t) H'
theorem ok_tree {f : Addr} {fd : FuncData} (F : Fun K "_law_tree" "_law_tree" s_law_tree f fd) (T : TxtG mg) (C_law_draw : Cal P w K mg base 1 "_law_draw" spDraw) (C_law_name : Cal P w K mg base 2 "_law_name" spName) (C_law_length : Cal P w K mg base 2 "_law_length" spLength) : FnOk P w K mg base CX0 3 f fd ["seed", "most"] spTree := by
  refine F.ok sc_law_tree (fun vs H Q E h => ?_) (fun cdv A outer s H vs Q E hr h => ?_)
  · obtain ⟨d, n, most, rfl, _⟩ := h
    rfl
  · obtain ⟨d, n, most, rfl, hD, hn, hm1, hm, q⟩ := h
    refine ⟨_, (pss_cons (ps_set (i := 2) sc_law_tree.nd rfl (.inl rfl) (pe_ix ix_list (pe_lst (pa_cons (pe_op op_add pe_int (pe_c C_law_draw hr (by decide) rfl (pa_cons (pv 0) (pa_cons (pe_callB (call_min2 rfl) (by rfl) T.min bt_min (pa_cons (pv 1) (pa_cons pe_int pa_nil))) pa_nil)))) (pa_cons (pe_op op_add pe_int (pe_c C_law_draw hr (by decide) rfl (pa_cons (pv 0) (pa_cons (pv 1) pa_nil)))) (pa_cons (pv 1) pa_nil)))) (pe_c C_law_draw hr (by decide) rfl (pa_cons (pv 0) (pa_cons pe_int pa_nil))) (fun _ _ => rfl)))
      (pss_cons (ps_set (i := 3) sc_law_tree.nd rfl (.inl rfl) (pe_c C_law_draw hr (by decide) rfl (pa_cons (pv 0) (pa_cons pe_int pa_nil))))
      (pss_cons (ps_set (i := 4) sc_law_tree.nd rfl (.inl rfl) (pe_c C_law_draw hr (by decide) rfl (pa_cons (pv 0) (pa_cons pe_int pa_nil))))
      (pss_cons (ps_set (i := 5) sc_law_tree.nd rfl (.inl rfl) (pe_lst pa_nil))
      (pss_cons (ps_set (i := 6) sc_law_tree.nd rfl (.inl rfl) (pe_lst pa_nil))
      (pss_cut (ps_for PassesOwn.never rfl (pi_range1 (by rfl) T.range (pa_cons (pv 2) pa_nil)) (pg_name (i := 7) sc_law_tree.nd rfl (.inl rfl))
        (pss_one (ps_expr (pe_bm PySem.F.plainAttrs_list PySem.F.slot_list_append PySem.F.type_list_append mt_append (pv 5) (pa_cons (pe_c C_law_name hr (by decide) rfl (pa_cons (pv 0) (pa_cons (pv 5) pa_nil))) pa_nil)))))
      (pss_cons (ps_set (i := 8) sc_law_tree.nd rfl (.inr rfl) (pe_listRg rfl (by rfl) T.list (prg_1 (by rfl) T.range (pv 2))))
      (pss_cut (ps_if (pt_cmpR op_gt (pe_c C_law_draw hr (by decide) rfl (pa_cons (pv 0) (pa_cons pe_int pa_nil))) pe_int (nomark _))
        (pss_one (ps_set (i := 8) sc_law_tree.nd rfl (.inr rfl) (pe_lc (own := [("k", 7)]) (g := gName 7) (tt := tYes) rfl sc_law_tree.nd (pi_range1 (by rfl) T.range (pa_cons (pv 2) pa_nil)) (blkOk_by (N := N_law_tree) (sc := defScope s_law_tree) (by decide +kernel)) (fun _ _ _ _ _ => pg_name (i := 7) sc_law_tree.nd rfl (Or.inl rfl)) (fun _ _ _ _ _ => pts_nil) (fun _ _ _ _ _ => (show PE _ _ (tBM K "list" rPopAt _ _) from pe_bm PySem.F.plainAttrs_list PySem.F.slot_list_pop PySem.F.type_list_pop mt_popAt (pv 8) (pa_cons (pe_c C_law_draw hr (by decide) rfl (pa_cons (pv 0) (pa_cons (pe_callB (lenK (K := K)) (by rfl) T.len bt_len (pa_cons (pv 8) pa_nil)) pa_nil))) pa_nil))))))
        pss_nil)
      (pss_cut (ps_for PassesOwn.never rfl (pi_range2 (by rfl) T.range (pa_cons pe_int (pa_cons (pv 2) pa_nil))) (pg_name (i := 7) sc_law_tree.nd rfl (.inl rfl))
        (pss_cons (ps_set (i := 9) sc_law_tree.nd rfl (.inl rfl) (pe_op op_sub (pe_op op_sub (pv 7) pe_int) (pe_c C_law_draw hr (by decide) rfl (pa_cons (pv 0) (pa_cons (pe_callB (call_min2 rfl) (by rfl) T.min bt_min (pa_cons (pv 7) (pa_cons pe_int pa_nil))) pa_nil)))))
        (pss_cons (ps_set (i := 10) sc_law_tree.nd rfl (.inl rfl) (pe_ix ix_list (pe_lst (pa_cons (pe_op op_sub (pv 7) pe_int) (pa_cons pe_int (pa_cons (pe_op op_mul (pe_op op_mod (pv 7) pe_int) (pe_callTy call_int1 (by rfl) T.int bt_int (pa_cons (pe_cmpR op_gt (pv 7) pe_int (nomark _)) pa_nil))) (pa_cons (pv 9) (pa_cons (pe_c C_law_draw hr (by decide) rfl (pa_cons (pv 0) (pa_cons (pv 7) pa_nil))) (pa_cons (pe_callB (call_max2 rfl) (by rfl) T.max bt_max (pa_cons pe_int (pa_cons (pe_op op_sub (pe_op op_sub (pv 7) pe_int) (pe_op op_mod (pv 7) pe_int)) pa_nil))) pa_nil))))))) (pv 3) (fun _ _ => rfl)))
        (pss_cons (ps_set (i := 11) sc_law_tree.nd rfl (.inl rfl) (pe_stepL (pe_lst (pa_cons (pe_ix ix_list (pv 5) (pe_ix ix_list (pv 8) (pv 10) (fun _ _ => rfl)) (fun _ _ => rfl)) (pa_cons (pe_ix ix_list (pv 5) (pe_ix ix_list (pv 8) (pv 7) (fun _ _ => rfl)) (fun _ _ => rfl)) pa_nil))) (pe_ix ix_list (pe_lst (pa_cons pe_int (pa_cons (pe_un un_neg pe_int) pa_nil))) (pe_c C_law_draw hr (by decide) rfl (pa_cons (pv 0) (pa_cons pe_int pa_nil))) (fun _ _ => rfl))))
        (pss_one (ps_expr (pe_bm PySem.F.plainAttrs_list PySem.F.slot_list_insert PySem.F.type_list_insert mt_insert (pv 6) (pa_cons (pe_c C_law_draw hr (by decide) rfl (pa_cons (pv 0) (pa_cons (pe_op op_add (pe_callB call_len_seq (by rfl) T.len bt_len (pa_cons (pv 6) pa_nil)) pe_int) pa_nil))) (pa_cons (pe_tup (pa_cons (pe_ix ix_list (pv 11) pe_int (fun _ _ => rfl)) (pa_cons (pe_ix ix_list (pv 11) pe_int (fun _ _ => rfl)) (pa_cons (pe_c C_law_length hr (by decide) rfl (pa_cons (pv 0) (pa_cons (pv 4) pa_nil))) pa_nil)))) pa_nil)))))))))
      (pss_one (ps_ret (pe_tup (pa_cons (pe_tupleZ (by rfl) T.tuple (pv 5)) (pa_cons (pe_tupleOf (by rfl) T.tuple (pv 6)) pa_nil)))))))))))))), ?_⟩
    -- many
    refine ⟨_, rfl, _, rfl, _, _, rfl, d, n, _, rfl, hD, by omega, by split <;> omega, by split <;> omega, fun H1 r1 r10 r11 S1 D1 => ⟨_, _, rfl, rfl, ?_⟩⟩
    have r12 : r1 < most := by split at r11 <;> omega
    refine ⟨_, rfl, _, rfl, d, _, most, rfl, D1, by omega, by omega, by omega, fun H2 r2 r20 r21 S2 D2 => ⟨_, _, rfl, rfl, ?_⟩⟩
    refine ⟨_, rfl, (by show 3 ≤ sizeLine; decide), fun p1 np1 => ?_⟩
    refine ⟨_, rfl, d, _, 3, rfl, D2.new np1, by omega, by decide, by decide, fun H3 r3 r30 r31 S3 D3 => ?_⟩
    have hp1 := S3 p1 _ (D2.nd np1) upd_same
    have SM3 : SmX d H H3 := ((S1.trans S2).new np1).trans S3
    obtain ⟨v, hv, mv⟩ := atI_in (xs := [V.int (1 + r1), .int (1 + r2), .int most]) r30 (by simpa using r31)
    have hs : ∃ m : Nat, v = .int m ∧ 1 ≤ m ∧ m ≤ most := by
      simp only [List.mem_cons, List.not_mem_nil, or_false] at mv
      rcases mv with e | e | e
      · exact ⟨(1 + r1).toNat, by rw [e]; congr 1; omega, by omega, by omega⟩
      · exact ⟨(1 + r2).toNat, by rw [e]; congr 1; omega, by omega, by omega⟩
      · exact ⟨most, e, by omega, by omega⟩
    obtain ⟨many, rfl, m1, mm⟩ := hs
    refine ⟨p1, _, r3, _, rfl, rfl, SqL.of hp1, hv, ?_⟩
    -- shape, kind
    refine ⟨_, rfl, d, _, 6, rfl, D3, by omega, by decide, by decide, fun H4 shape w0 w1 S4 D4 => ?_⟩
    refine ⟨_, rfl, d, _, 5, rfl, D4, by omega, by decide, by decide, fun H5 kind g0 g1 S5 D5 => ?_⟩
    have SM5 : SmX d H H5 := (SM3.trans S4).trans S5
    -- names, ties
    refine ⟨Nat.zero_le _, fun p np => ?_⟩
    have npd : p ≠ d := D5.nd np
    have np0 : H p = none := SM5.free np npd
    have D6 := D5.new (o := .lst []) np
    have SM6 : SmX d H (upd H5 p (.lst [])) := SM5.new np
    refine ⟨Nat.zero_le _, fun t nt => ?_⟩
    have ntd : t ≠ d := D6.nd nt
    have nt0 : H t = none := SM6.free nt ntd
    have ntp : p ≠ t := ne_of_none upd_same nt
    -- the names
    refine ⟨fun σ' H' => ∃ (x7 : Option V) (ls : List Nm), σ' = [some (.ref d), some (.int most), some (.int many), some (.int shape), some (.int kind), some (.ref p), some (.ref t), x7, none, none, none, none] ∧ ls.length = many ∧ ls.Nodup ∧ (∀ l ∈ ls, NameOk l) ∧ Tr H H' d p t (n + 5 + 20 * many) ls [] [], ?_, fun σ' H' hM => ?_⟩
    · refine ⟨_, rfl, (many : Int), rfl, by omega, by omega, ?_⟩
      refine for_range (lo := 0) (n := (many : Int).toNat) (fun i σ' H' => ∃ (x7 : Option V) (ls : List Nm), σ' = [some (.ref d), some (.int most), some (.int many), some (.int shape), some (.int kind), some (.ref p), some (.ref t), x7, none, none, none, none] ∧ ls.length = i ∧ ls.Nodup ∧ (∀ l ∈ ls, NameOk l) ∧ Tr H H' d p t (n + 5 + 20 * i) ls [] []) ⟨none, [], rfl, rfl, List.nodup_nil, by simp, ?_, upd_same, .nil, SM6.new nt, D6.new nt⟩ (fun i σ' H' hi hP => ?_) (fun σ' H' hP => ?_)
      · unfold NamesAt
        rw [upd_ne ntp]
        exact upd_same
      · obtain ⟨x7, ls, rfl, hl, nd, ok, X0⟩ := hP
        refine ⟨_, rfl, .inl ⟨rfl, _, SqL.of X0.nm⟩, _, rfl, _, rfl, d, p, _, ls, rfl, X0.dk, by omega, npd, X0.nm, by omega, ok, fun H7 l lok nin S7 D7 => ?_⟩
        have X7 := X0.step npd ntd S7 D7
        refine ⟨p, _, _, rfl, rfl, X7.nm, by rw [List.length_map, List.length_map]; exact sz_lt (by omega), ?_⟩
        refine ⟨_, ls ++ [l], rfl, by rw [List.length_append, hl]; rfl, nd_snoc' nd nin, fun x hx => ?_, ?_, ?_, ?_, X7.sm.put np0, (X7.dk.put npd).mono (by omega)⟩
        · rcases List.mem_append.mp hx with z | z
          · exact ok x z
          · rw [List.mem_singleton.mp z]
            exact lok
        · unfold NamesAt
          rw [upd_same, List.map_append, List.map_append]
          rfl
        · rw [upd_ne ntp.symm]
          exact X7.tt
        · exact .nil
      · obtain ⟨x7, ls, rfl, hl, nd, ok, X0⟩ := hP
        exact ⟨x7, ls, rfl, by omega, nd, ok, X0.mono (by omega)⟩
    obtain ⟨x7, ls, rfl, hl, nd, ok, X1⟩ := hM
    -- order
    refine ⟨_, rfl, (many : Int), rfl, RgOk.of_le (by omega) (by omega) (by omega) (by omega), fun o no => ?_⟩
    rw [rgV_nat]
    have X2 := X1.new (o := .lst ((List.range many).map iV)) no
    have od : o ≠ d := X1.dk.nd no
    have o0 : H o = none := X1.sm.free no od
    have op : o ≠ p := (ne_of_none X1.nm no).symm
    have ot : o ≠ t := (ne_of_none X1.tt no).symm
    refine ⟨fun σ' H' => ∃ (x7 : Option V) (o : Addr) (js : List Nat), σ' = [some (.ref d), some (.int most), some (.int many), some (.int shape), some (.int kind), some (.ref p), some (.ref t), x7, some (.ref o), none, none, none] ∧ o ≠ d ∧ o ≠ p ∧ o ≠ t ∧ H o = none ∧ js.Perm (List.range ls.length) ∧ H' o = some (.lst (js.map iV)) ∧ Tr H H' d p t (n + 640) ls [] [], ?_, fun σ' H' hM => ?_⟩
    · refine ⟨_, rfl, d, _, 3, rfl, X2.dk, by omega, by decide, by decide, fun H7 r7 r70 r71 S7 D7 => ?_⟩
      have X7 := X2.step npd ntd S7 D7
      have ho7 : H7 o = some (.lst ((List.range many).map iV)) := S7 o _ od upd_same
      refine ⟨_, _, rfl, rfl, _, rfl, ?_⟩
      refine ite2 (fun e => ?_) (fun e => ?_)
      · refine ⟨_, rfl, (many : Int), rfl, by omega, by omega, fun D nD => ?_⟩
        have Dd := X7.dk.nd nD
        have D0 : H D = none := X7.sm.free nD Dd
        have Dp' : D ≠ p := (ne_of_none X7.nm nD).symm
        have DNt : D ≠ t := (ne_of_none X7.tt nD).symm
        have Do : D ≠ o := (ne_of_none ho7 nD).symm
        refine lc_range (lo := 0) (n := (many : Int).toNat) (fun i H'' => ∃ l1 l2 : List Nat, l1.length = i ∧ (l1 ++ l2).Perm (List.range many) ∧ H'' D = some (.lst (l1.map iV)) ∧ H'' o = some (.lst (l2.map iV)) ∧ Tr H H'' d p t (n + 6 + 20 * many + i) ls [] [])
          ⟨[], List.range many, rfl, List.Perm.refl _, upd_same, by rw [upd_ne Do.symm]; exact ho7, (X7.new nD).mono (by omega)⟩ (fun i H'' hi hP => ?_) (fun H'' hP => ?_)
        · obtain ⟨l1, l2, hl1, pm, hDD, ho, X3⟩ := hP
          have ll := pm.length_eq
          rw [List.length_append, List.length_range] at ll
          refine ⟨rfl, _, rfl, .inl ⟨rfl, _, SqL.of ho⟩, _, rfl, _, rfl, .ref o, _, rfl, .inl ⟨_, SqL.of ho, rfl⟩, d, _, _, rfl, X3.dk, by omega, by rw [List.length_map]; omega, by rw [List.length_map]; omega, fun H8 r r0 r1 S8 D8 => ?_⟩
          have X8 := X3.step npd ntd S8 D8
          have hD8 := S8 D _ Dd hDD
          have ho8 := S8 o _ od ho
          rw [List.length_map] at r1
          have hx : l2[r.toNat]? = some (l2[r.toNat]'(by omega)) := List.getElem?_eq_getElem (by omega)
          generalize l2[r.toNat]'(by omega) = x at hx
          have hx' : (l2.map iV)[r.toNat]? = some (iV x) := by
            rw [List.getElem?_map, hx]
            rfl
          refine ⟨o, _, r, r.toNat, iV x, rfl, rfl, ho8, by omega, by omega, seq_ix r0 (by rw [List.length_map]; exact r1), hx', ?_⟩
          have X9 := X8.put (o := .lst ((l2.map iV).eraseIdx r.toNat)) op ot od o0 ho8
          have hD9 : (upd H8 o (.lst ((l2.map iV).eraseIdx r.toNat))) D = some (.lst (l1.map iV)) := by
            rw [upd_ne Do]
            exact hD8
          refine ⟨_, hD9, by rw [List.length_map]; exact sz_lt (by omega), l1 ++ [x], l2.eraseIdx r.toNat, by rw [List.length_append, hl1]; rfl, perm_pick pm hx, ?_, ?_, X9.put Dp' DNt Dd D0 hD9⟩
          · rw [upd_same, List.map_append]
            rfl
          · rw [upd_ne Do.symm, upd_same, map_erase]
        · obtain ⟨l1, l2, hl1, pm, hDD, ho, X3⟩ := hP
          have ll := pm.length_eq
          rw [List.length_append, List.length_range] at ll
          have e2 : l2 = [] := List.length_eq_zero_iff.mp (by omega)
          subst e2
          rw [List.append_nil] at pm
          exact ⟨_, D, l1, rfl, Dd, Dp', DNt, D0, by rw [hl]; exact pm, hDD, X3.mono (by omega)⟩
      · exact ⟨_, o, List.range many, rfl, od, op, ot, o0, by rw [hl], ho7, X7.mono (by omega)⟩
    clear x7 X1 X2 no od o0 op ot
    clear o
    obtain ⟨x7, o, js, rfl, od, op, ot, o0, pj, ho, X1⟩ := hM
    have pos := inOrd_perm pj
    have ol : (inOrd ls js).length = many := by rw [pos.length_eq, hl]
    have ond : (inOrd ls js).Nodup := pos.nodup_iff.mpr nd
    -- the ties
    refine ⟨fun σ' H' => ∃ (x7 x9 x10 x11 : Option V) (tvs : List V) (ts es : List Tie), σ' = [some (.ref d), some (.int most), some (.int many), some (.int shape), some (.int kind), some (.ref p), some (.ref t), x7, some (.ref o), x9, x10, x11] ∧ Grown (inOrd ls js) es ∧ ts.Perm es ∧ Tr H H' d p t (n + 1000) ls tvs ts, ?_, fun σ' H' hM => ?_⟩
    · refine ⟨_, rfl, 1, many, rfl, ⟨by decide, by decide, by omega, by omega⟩, ?_⟩
      refine for_range (lo := 1) (n := ((many : Int) - 1).toNat) (fun i σ' H' => ∃ (x7 x9 x10 x11 : Option V) (tvs : List V) (ts es : List Tie), σ' = [some (.ref d), some (.int most), some (.int many), some (.int shape), some (.int kind), some (.ref p), some (.ref t), x7, some (.ref o), x9, x10, x11] ∧ Grown ((inOrd ls js).take (i + 1)) es ∧ ts.Perm es ∧ H' o = some (.lst (js.map iV)) ∧ Tr H H' d p t (n + 640 + 8 * i) ls tvs ts) ⟨_, _, _, _, [], [], [], rfl, ?_, List.Perm.refl _, ho, X1⟩ (fun i σ' H' hi hP => ?_) (fun σ' H' hP => ?_)
      · cases hos : inOrd ls js with
        | nil => rw [hos] at ol; simp at ol; omega
        | cons a r => exact Grown.one a
      · obtain ⟨x7, x9, x10, x11, tvs, ts, es, rfl, hG, pm, ho0, X0⟩ := hP
        have hi' : i + 1 < many := by omega
        -- near
        refine ⟨_, rfl, _, _, rfl, rfl, _, rfl, _, rfl, _, _, rfl, d, _, _, rfl, X0.dk, by omega, by split <;> omega, by split <;> omega, fun H7 nr nr0 nr1 S7 D7 => ⟨_, _, rfl, rfl, ?_⟩⟩
        have nr2 : nr < 1 + (i : Int) := by split at nr1 <;> omega
        have X7 := X0.step npd ntd S7 D7
        have ho7 := S7 o _ od ho0
        -- at
        refine ⟨_, rfl, _, _, rfl, rfl, _, rfl, _, _, rfl, rfl, (by show (0 : Int) < _; decide), ?_⟩
        refine ⟨_, rfl, _, _, rfl, rfl, .inr ⟨_, rfl, ?_⟩⟩
        refine ⟨_, _, rfl, rfl, .inl ⟨by omega, by omega⟩, _, rfl, _, rfl, _, rfl, d, _, _, rfl, X7.dk, by omega, by omega, by omega, fun H8 a a0 a1 S8 D8 => ?_⟩
        have X8 := X7.step npd ntd S8 D8
        have ho8 := S8 o _ od ho7
        refine ⟨_, rfl, _, _, rfl, rfl, _, rfl, _, _, rfl, rfl, (by show (0 : Int) < _; decide), _, _, rfl, rfl, _, _, rfl, (by show 6 ≤ sizeLine; decide), fun p8 np8 => ?_⟩
        have X9 := X8.new (o := .lst [V.int (1 + (i : Int) - 1), .int 0, .int ((1 + (i : Int)) % 2 * if decide (1 + (i : Int) > 1) = true then 1 else 0), .int (1 + (i : Int) - 1 - nr), .int a, .int (if 1 + (i : Int) - 1 - (1 + (i : Int)) % 2 > 0 then 1 + (i : Int) - 1 - (1 + (i : Int)) % 2 else 0)]) np8
        obtain ⟨v, hv, mv⟩ := atI_in (xs := [V.int (1 + (i : Int) - 1), .int 0, .int ((1 + (i : Int)) % 2 * if decide (1 + (i : Int) > 1) = true then 1 else 0), .int (1 + (i : Int) - 1 - nr), .int a, .int (if 1 + (i : Int) - 1 - (1 + (i : Int)) % 2 > 0 then 1 + (i : Int) - 1 - (1 + (i : Int)) % 2 else 0)]) w0 (by simpa using w1)
        have hs : ∃ m : Nat, v = .int m ∧ m < i + 1 := by
          simp only [List.mem_cons, List.not_mem_nil, or_false] at mv
          rcases mv with e | e | e | e | e | e
          · exact ⟨i, by rw [e]; congr 1; omega, by omega⟩
          · exact ⟨0, e, by omega⟩
          · by_cases z : decide (1 + (i : Int) > 1) = true
            · rw [if_pos z, Int.mul_one] at e
              have z := of_decide_eq_true z
              exact ⟨((1 + (i : Int)) % 2).toNat, by rw [e, Int.toNat_of_nonneg (by omega)], by omega⟩
            · rw [if_neg z, Int.mul_zero] at e
              exact ⟨0, e, by omega⟩
          · exact ⟨(1 + (i : Int) - 1 - nr).toNat, by rw [e, Int.toNat_of_nonneg (by omega)], by omega⟩
          · exact ⟨a.toNat, by rw [e]; congr 1; omega, by omega⟩
          · by_cases z : 1 + (i : Int) - 1 - (1 + (i : Int)) % 2 > 0
            · rw [if_pos z] at e
              exact ⟨(1 + (i : Int) - 1 - (1 + (i : Int)) % 2).toNat, by rw [e]; congr 1; omega, by omega⟩
            · rw [if_neg z] at e
              exact ⟨0, e, by omega⟩
        obtain ⟨at', rfl, hat⟩ := hs
        refine ⟨_, rfl, p8, _, shape, _, rfl, rfl, SqL.of upd_same, hv, ?_⟩
        have ho9 : ∀ O, (upd H8 p8 O) o = some (.lst (js.map iV)) := fun O => by
          rw [upd_ne (ne_of_none ho8 np8)]
          exact ho8
        -- pair
        obtain ⟨ja, xa, ga, na, oa⟩ := inOrd_at pj (a := at') (by omega)
        obtain ⟨jk, xk, gk, nk, ok'⟩ := inOrd_at pj (a := i + 1) (by omega)
        have ek : 1 + (i : Int) = ((i + 1 : Nat) : Int) := by omega
        refine ⟨_, rfl, _, rfl, _, rfl, o, _, at', _, rfl, rfl, SqL.of (ho9 _), atI_nat ga, p, _, ja, _, rfl, rfl, SqL.of X9.nm, atI_nat na, ?_⟩
        refine ⟨_, rfl, _, rfl, _, rfl, o, _, 1 + (i : Int), _, rfl, rfl, SqL.of (ho9 _), by rw [ek]; exact atI_nat gk, p, _, jk, _, rfl, rfl, SqL.of X9.nm, atI_nat nk, (by show 2 ≤ sizeLine; decide), fun q1 nq1 => ?_⟩
        have X10 := X9.new (o := .lst [.str (S xa), .str (S xk)]) nq1
        refine ⟨_, rfl, (by show 2 ≤ sizeLine; decide), fun q2 nq2 => ?_⟩
        have X11 := X10.new (o := .lst [.int 1, .int (-1)]) nq2
        refine ⟨_, rfl, d, _, 2, rfl, X11.dk, by omega, by decide, by decide, fun H12 b b0 b1 S12 D12 => ?_⟩
        have X12 := X11.step npd ntd S12 D12
        have hq1 : H12 q1 = some (.lst [.str (S xa), .str (S xk)]) := S12 q1 _ (X9.dk.nd nq1) (by rw [upd_ne (ne_of_none upd_same nq2)]; exact upd_same)
        have hq2 : H12 q2 = some (.lst [.int 1, .int (-1)]) := S12 q2 _ (X10.dk.nd nq2) upd_same
        have ho12 : H12 o = some (.lst (js.map iV)) := S12 o _ od (by rw [upd_ne (ne_of_none (by rw [upd_ne (ne_of_none (ho9 _) nq1)]; exact ho9 _) nq2), upd_ne (ne_of_none (ho9 _) nq1)]; exact ho9 _)
        obtain ⟨v, hv, mv⟩ := atI_in (xs := [V.int 1, .int (-1)]) b0 (by simpa using b1)
        have hs : ∃ z : Int, v = .int z ∧ (z = 1 ∨ z = -1) := by
          simp only [List.mem_cons, List.not_mem_nil, or_false] at mv
          rcases mv with e | e
          · exact ⟨1, e, .inl rfl⟩
          · exact ⟨-1, e, .inr rfl⟩
        obtain ⟨z, rfl, hz⟩ := hs
        refine ⟨q2, _, b, _, rfl, rfl, SqL.of hq2, hv, z, rfl, q1, _, z, rfl, rfl, hz, SqL.of hq1, fun q3 nq3 => ?_⟩
        obtain ⟨ya, yb, ey, hab⟩ : ∃ ya yb : Nm, (if z = 1 then [V.str (S xa), .str (S xk)] else [V.str (S xa), .str (S xk)].reverse) = [.str (S ya), .str (S yb)] ∧ ((ya = xa ∧ yb = xk) ∨ (ya = xk ∧ yb = xa)) := by
          rcases hz with z1 | z1
          · exact ⟨xa, xk, by rw [if_pos z1], .inl ⟨rfl, rfl⟩⟩
          · exact ⟨xk, xa, by rw [if_neg (by rw [z1]; decide)]; rfl, .inr ⟨rfl, rfl⟩⟩
        rw [ey]
        have X13 := X12.new (o := .lst [.str (S ya), .str (S yb)]) nq3
        have ho13 : (upd H12 q3 (.lst [.str (S ya), .str (S yb)])) o = some (.lst (js.map iV)) := by
          rw [upd_ne (ne_of_none ho12 nq3)]
          exact ho12
        have tl : tvs.length = ts.length := by
          have := DtAll.len X13.al
          rwa [List.length_map] at this
        have gl := hG.len
        rw [List.length_take] at gl
        have pl := pm.length_eq
        -- ties.insert
        refine ⟨_, rfl, .inl ⟨rfl, _, SqL.of X13.tt⟩, _, rfl, _, rfl, t, _, rfl, .inl (SqL.of X13.tt), _, _, rfl, rfl, d, _, _, rfl, X13.dk, by omega, by omega, by omega, fun H14 r r0 r1 S14 D14 => ?_⟩
        have X14 := X13.step npd ntd S14 D14
        have hq3 : H14 q3 = some (.lst [.str (S ya), .str (S yb)]) := S14 q3 _ (X12.dk.nd nq3) upd_same
        have ho14 := S14 o _ od ho13
        refine ⟨_, rfl, q3, _, 0, _, rfl, rfl, SqL.of hq3, rfl, _, rfl, q3, _, 1, _, rfl, rfl, SqL.of hq3, rfl, ?_⟩
        refine ⟨_, rfl, _, rfl, d, _, kind, rfl, X14.dk, by omega, g0, g1, fun H15 lg l0 l1 S15 D15 => ?_⟩
        have X15 := X14.step npd ntd S15 D15
        have ho15 := S15 o _ od ho14
        refine ⟨(by show 3 ≤ sizeLine; decide), fun e4 ne4 => ?_⟩
        have X16 := X15.new (o := .tup [.str (S ya), .str (S yb), .int lg]) ne4
        have ho16 : (upd H15 e4 (.tup [.str (S ya), .str (S yb), .int lg])) o = some (.lst (js.map iV)) := by
          rw [upd_ne (ne_of_none ho15 ne4)]
          exact ho15
        refine ⟨t, tvs, r, _, rfl, rfl, X16.tt, sz_lt (by omega), r0, by omega, ?_⟩
        have tk : TK (upd H15 e4 (.tup [.str (S ya), .str (S yb), .int lg])) (upd (upd H15 e4 (.tup [.str (S ya), .str (S yb), .int lg])) t (.lst (tvs.take r.toNat ++ [.ref e4] ++ tvs.drop r.toNat))) := TK.mut X16.tt
        refine ⟨_, _, _, _, tvs.take r.toNat ++ [.ref e4] ++ tvs.drop r.toNat, ts.take r.toNat ++ [(ya, yb, lg)] ++ ts.drop r.toNat, es ++ [(ya, yb, lg)], rfl, ?_, perm_insert _ pm, ?_, ?_, upd_same, ?_, X16.sm.put nt0, (X16.dk.put ntd).mono (by omega)⟩
        · have e5 : (inOrd ls js).take (i + 1 + 1) = (inOrd ls js).take (i + 1) ++ [xk] := by
            rw [List.take_add_one, ok']
            rfl
          rw [e5]
          obtain ⟨la, ea⟩ := List.getElem?_eq_some_iff.mp oa
          obtain ⟨lk, ek'⟩ := List.getElem?_eq_some_iff.mp ok'
          refine Grown.leaf (a := xa) (k := lg) hG ?_ ?_ ?_ (by omega) (by omega)
          · exact List.mem_take_iff_getElem.mpr ⟨at', by omega, ea⟩
          · intro hm
            obtain ⟨j, hj, ej⟩ := List.mem_take_iff_getElem.mp hm
            have := (List.getElem_inj ond).mp (ej.trans ek'.symm)
            omega
          · rcases hab with ⟨z1, z2⟩ | ⟨z1, z2⟩ <;> rw [z1, z2]
            · exact .inl rfl
            · exact .inr rfl
        · rw [upd_ne ot]
          exact ho16
        · unfold NamesAt
          rw [upd_ne ntp]
          exact X16.nm
        · have := DtAll.ins r.toNat (DtAll.keep tk X16.al) (v := .ref e4) (d := tieD (ya, yb, lg)) (.tup (tk.tup _ _ upd_same) (.cons (.str _) (.cons (.str _) (.cons (.int _) .nil))))
          rw [List.map_append, List.map_append, List.map_take, List.map_drop]
          exact this
      · obtain ⟨x7, x9, x10, x11, tvs, ts, es, rfl, hG, pm, ho0, X0⟩ := hP
        refine ⟨_, _, _, _, tvs, ts, es, rfl, ?_, pm, X0.mono (by omega)⟩
        rwa [List.take_of_length_le (by omega)] at hG
    · obtain ⟨x7, x9, x10, x11, tvs, ts, es, rfl, hG, pm, X0⟩ := hM
      refine ⟨_, rfl, p, _, rfl, SqL.of X0.nm, fun q1 o1 nq1 od1 => ?_⟩
      have X6 := X0.new (o := .frz o1 (.tup ((ls.map S).map V.str))) nq1
      refine ⟨_, rfl, .inl ⟨t, tvs, rfl, SqL.of X6.tt, fun q2 nq2 => ?_⟩⟩
      have X7 := X6.new (o := .tup tvs) nq2
      refine ⟨(by show 2 ≤ sizeLine; decide), fun q3 nq3 => ?_⟩
      have X8 := X7.new (o := .tup [.ref q1, .ref q2]) nq3
      have it : IsTree ls ts := ⟨inOrd ls js, es, hG, pos.symm, pm⟩
      have plne : ls ≠ [] := fun z => by
        have := it.len
        rw [z] at this
        simp at this
      have hz := ((TK.new nq2).trans (TK.new (o := .tup [.ref q1, .ref q2]) nq3)).frz _ _ _ (upd_same (H := _) (a := q1) (o := .frz o1 (.tup ((ls.map S).map V.str))))
      exact q _ q3 ls ts it ok (by omega) (.tup upd_same (.cons (.tupZ rfl plne od1 hz) (.cons (.tup ((TK.new nq3).tup _ _ upd_same) X8.al) .nil))) ⟨q3, q1, q2, o1, rfl, upd_same, od1, hz⟩ X8.sm X8.dk
end
end Far

namespace Far
open PySem
open SX (S)
/-! ### ways in a tree -/
def Adj (ts : List Tie) (u v : Nm) (k : Int) : Prop := (u, v, k) ∈ ts ∨ (v, u, k) ∈ ts
theorem Adj.symm {ts : List Tie} {u v : Nm} {k : Int} (h : Adj ts u v k) : Adj ts v u k := h.elim .inr .inl
theorem Adj.perm {ts ts' : List Tie} {u v : Nm} {k : Int} (p : ts.Perm ts') (h : Adj ts u v k) : Adj ts' u v k := h.elim (fun h => .inl (p.mem_iff.mp h)) fun h => .inr (p.mem_iff.mp h)
/-- from u to v, no place twice: the places, the length -/
inductive Way (ts : List Tie) (u : Nm) : Nm → List Nm → Int → Prop
  | nil : Way ts u u [u] 0
  | snoc {v w : Nm} {p : List Nm} {L k : Int} : Way ts u v p L → Adj ts v w k → w ∉ p → Way ts u w (p ++ [w]) (L + k)
theorem Way.perm {ts ts' : List Tie} (q : ts.Perm ts') {u v : Nm} {p : List Nm} {L : Int} (h : Way ts u v p L) : Way ts' u v p L := by
  induction h with
  | nil => exact .nil
  | snoc _ ha hn ih => exact .snoc ih (ha.perm q) hn
theorem Way.last {ts : List Tie} {u v : Nm} {p : List Nm} {L : Int} (h : Way ts u v p L) : ∃ q, p = q ++ [v] := by
  cases h with
  | nil => exact ⟨[], rfl⟩
  | snoc _ _ _ => exact ⟨_, rfl⟩
theorem Way.mem {ts : List Tie} {u v : Nm} {p : List Nm} {L : Int} (h : Way ts u v p L) : v ∈ p := by
  obtain ⟨q, rfl⟩ := h.last
  simp
theorem Way.first {ts : List Tie} {u v : Nm} {p : List Nm} {L : Int} (h : Way ts u v p L) : ∃ q, p = u :: q := by
  induction h with
  | nil => exact ⟨[], rfl⟩
  | snoc _ _ _ ih =>
    obtain ⟨q, rfl⟩ := ih
    exact ⟨q ++ [_], rfl⟩
theorem Way.nodup {ts : List Tie} {u v : Nm} {p : List Nm} {L : Int} (h : Way ts u v p L) : p.Nodup := by
  induction h with
  | nil => simp
  | snoc _ _ hn ih => exact nd_snoc' ih hn
theorem Way.inside {ts : List Tie} {pl : List Nm} (ht : ∀ e ∈ ts, e.1 ∈ pl ∧ e.2.1 ∈ pl) {u v : Nm} {p : List Nm} {L : Int} (h : Way ts u v p L) (hu : u ∈ pl) : ∀ x ∈ p, x ∈ pl := by
  induction h with
  | nil =>
    intro x hx
    rw [List.mem_singleton.mp hx]
    exact hu
  | snoc _ ha _ ih =>
    intro x hx
    rcases List.mem_append.mp hx with z | z
    · exact ih x z
    · rw [List.mem_singleton.mp z]
      rcases ha with h | h
      · exact (ht _ h).2
      · exact (ht _ h).1
/-- a place on the way is come to by a way of its own -/
theorem Way.upto {ts : List Tie} {u v x : Nm} {p : List Nm} {L : Int} (h : Way ts u v p L) (hx : x ∈ p) : ∃ q M, Way ts u x q M ∧ ∀ y ∈ q, y ∈ p := by
  induction h with
  | nil =>
    rw [List.mem_singleton.mp hx]
    exact ⟨_, _, .nil, fun _ h => h⟩
  | snoc h1 ha hn ih =>
    rcases List.mem_append.mp hx with z | z
    · obtain ⟨q, M, hq, hs⟩ := ih z
      exact ⟨q, M, hq, fun y hy => List.mem_append_left _ (hs y hy)⟩
    · rw [List.mem_singleton.mp z]
      exact ⟨_, _, .snoc h1 ha hn, fun _ h => h⟩
section leaf
variable {os : List Nm} {es : List Tie} {a b : Nm} {k : Int} {e0 : Tie}
theorem adj_new (hb : ∀ e ∈ es, e.1 ≠ b ∧ e.2.1 ≠ b) (ab : a ≠ b) (he : e0 = (a, b, k) ∨ e0 = (b, a, k)) {x y : Nm} {m : Int} (h : Adj (es ++ [e0]) x y m) :
    (Adj es x y m ∧ x ≠ b ∧ y ≠ b) ∨ (x = a ∧ y = b ∧ m = k) ∨ (x = b ∧ y = a ∧ m = k) := by
  rcases h with h | h <;> rcases List.mem_append.mp h with z | z
  · exact .inl ⟨.inl z, hb _ z⟩
  · have z := List.mem_singleton.mp z
    rcases he with e | e <;> rw [e] at z <;> cases z
    · exact .inr (.inl ⟨rfl, rfl, rfl⟩)
    · exact .inr (.inr ⟨rfl, rfl, rfl⟩)
  · exact .inl ⟨.inr z, (hb _ z).2, (hb _ z).1⟩
  · have z := List.mem_singleton.mp z
    rcases he with e | e <;> rw [e] at z <;> cases z
    · exact .inr (.inr ⟨rfl, rfl, rfl⟩)
    · exact .inr (.inl ⟨rfl, rfl, rfl⟩)
theorem way_old (hb : ∀ e ∈ es, e.1 ≠ b ∧ e.2.1 ≠ b) (ab : a ≠ b) (he : e0 = (a, b, k) ∨ e0 = (b, a, k)) {u v : Nm} {p : List Nm} {L : Int} (h : Way (es ++ [e0]) u v p L) (hu : u ≠ b) :
    (v ≠ b ∧ b ∉ p ∧ Way es u v p L) ∨ (v = b ∧ ∃ q M, p = q ++ [b] ∧ L = M + k ∧ Way es u a q M) := by
  induction h with
  | nil => exact .inl ⟨hu, fun z => hu (List.mem_singleton.mp z).symm, .nil⟩
  | @snoc v w p L m h1 ha hn ih =>
    rcases ih with ⟨hv, hbp, hw⟩ | ⟨hv, q, M, hp, _, hq⟩
    · rcases adj_new hb ab he ha with ⟨ha, _, wb⟩ | ⟨e1, e2, e3⟩ | ⟨e1, _, _⟩
      · refine .inl ⟨wb, fun z => ?_, .snoc hw ha hn⟩
        rcases List.mem_append.mp z with z | z
        · exact hbp z
        · exact wb (List.mem_singleton.mp z).symm
      · subst e1 e2 e3
        exact .inr ⟨rfl, p, L, rfl, rfl, hw⟩
      · exact absurd e1 hv
    · rcases adj_new hb ab he ha with ⟨_, vb, _⟩ | ⟨e1, _, _⟩ | ⟨_, e2, _⟩
      · exact absurd hv vb
      · exact absurd (e1.symm.trans hv) ab
      · refine absurd ?_ hn
        rw [e2, hp]
        exact List.mem_append_left _ hq.mem
theorem way_from (hb : ∀ e ∈ es, e.1 ≠ b ∧ e.2.1 ≠ b) (ab : a ≠ b) (he : e0 = (a, b, k) ∨ e0 = (b, a, k)) {v : Nm} {p : List Nm} {L : Int} (h : Way (es ++ [e0]) b v p L) :
    (v = b ∧ p = [b] ∧ L = 0) ∨ (v ≠ b ∧ ∃ q M, p = b :: q ∧ L = k + M ∧ Way es a v q M) := by
  induction h with
  | nil => exact .inl ⟨rfl, rfl, rfl⟩
  | @snoc v w p L m h1 ha hn ih =>
    rcases ih with ⟨hv, hp, hL⟩ | ⟨hv, q, M, hp, hL, hq⟩
    · rcases adj_new hb ab he ha with ⟨_, vb, _⟩ | ⟨e1, _, _⟩ | ⟨_, e2, e3⟩
      · exact absurd hv vb
      · exact absurd (e1.symm.trans hv) ab
      · subst e2 e3 hp hL
        exact .inr ⟨ab, [w], 0, rfl, by omega, .nil⟩
    · have wb : w ≠ b := fun z => hn (by rw [z, hp]; simp)
      rcases adj_new hb ab he ha with ⟨ha, _, _⟩ | ⟨_, e2, _⟩ | ⟨e1, _, _⟩
      · subst hp hL
        exact .inr ⟨wb, q ++ [w], M + m, rfl, by omega, .snoc hq ha fun z => hn (List.mem_cons.mpr (.inr z))⟩
      · exact absurd e2 wb
      · exact absurd e1 hv
end leaf
theorem Grown.one_way {os : List Nm} {es : List Tie} (g : Grown os es) : ∀ {u v : Nm} {p q : List Nm} {L M : Int}, Way es u v p L → Way es u v q M → p = q ∧ L = M := by
  induction g with
  | one a =>
    intro u v p q L M h1 h2
    cases h1 with
    | nil =>
      cases h2 with
      | nil => exact ⟨rfl, rfl⟩
      | snoc _ ha _ => rcases ha with h | h <;> cases h
    | snoc _ ha _ => rcases ha with h | h <;> cases h
  | @leaf os es a b k e0 g ha hbn he k1 k2 ih =>
    intro u v p q L M h1 h2
    have hb : ∀ e ∈ es, e.1 ≠ b ∧ e.2.1 ≠ b := fun e hm => by
      obtain ⟨i1, i2, _⟩ := g.ties e hm
      exact ⟨fun z => hbn (z ▸ i1), fun z => hbn (z ▸ i2)⟩
    have ab : a ≠ b := fun z => hbn (z ▸ ha)
    by_cases hu : u = b
    · subst hu
      rcases way_from hb ab he h1 with ⟨v1, p1, l1⟩ | ⟨v1, p1, l1, e1, e2, w1⟩ <;> rcases way_from hb ab he h2 with ⟨v2, p2, l2⟩ | ⟨v2, p2, l2, e3, e4, w2⟩
      · exact ⟨p1.trans p2.symm, l1.trans l2.symm⟩
      · exact absurd v1 v2
      · exact absurd v2 v1
      · obtain ⟨z1, z2⟩ := ih w1 w2
        rw [e1, e2, e3, e4, z1, z2]
        exact ⟨rfl, rfl⟩
    · rcases way_old hb ab he h1 hu with ⟨v1, _, w1⟩ | ⟨v1, p1, l1, e1, e2, w1⟩ <;> rcases way_old hb ab he h2 hu with ⟨v2, _, w2⟩ | ⟨v2, p2, l2, e3, e4, w2⟩
      · exact ih w1 w2
      · exact absurd v2 v1
      · exact absurd v1 v2
      · obtain ⟨z1, z2⟩ := ih w1 w2
        rw [e1, e2, e3, e4, z1, z2]
        exact ⟨rfl, rfl⟩
theorem IsTree.one_way {pl : List Nm} {ts : List Tie} (h : IsTree pl ts) {u v : Nm} {p q : List Nm} {L M : Int} (h1 : Way ts u v p L) (h2 : Way ts u v q M) : p = q ∧ L = M := by
  obtain ⟨os, es, g, _, p2⟩ := h
  exact g.one_way (h1.perm p2) (h2.perm p2)
/-- what is closed by ties and holds one place holds all -/
theorem Grown.all_of {os : List Nm} {es : List Tie} (g : Grown os es) : ∀ {F : Nm → Prop}, (∃ u ∈ os, F u) → (∀ x y k, F x → Adj es x y k → F y) → ∀ v ∈ os, F v := by
  induction g with
  | one a =>
    intro F ⟨u, hu, hF⟩ _ v hv
    rw [List.mem_singleton.mp hv, ← List.mem_singleton.mp hu]
    exact hF
  | @leaf os es a b k e0 g ha hbn he k1 k2 ih =>
    intro F ⟨u, hu, hF⟩ cl v hv
    have cab : Adj (es ++ [e0]) a b k := by
      rcases he with e | e
      · exact .inl (by rw [e]; simp)
      · exact .inr (by rw [e]; simp)
    have cl' : ∀ x y m, F x → Adj es x y m → F y := fun x y m hx h => cl x y m hx (h.elim (fun z => .inl (List.mem_append_left _ z)) fun z => .inr (List.mem_append_left _ z))
    have start : ∃ w ∈ os, F w := by
      rcases List.mem_append.mp hu with z | z
      · exact ⟨u, z, hF⟩
      · rw [List.mem_singleton.mp z] at hF
        exact ⟨a, ha, cl b a k hF cab.symm⟩
    have old := ih start cl'
    rcases List.mem_append.mp hv with z | z
    · exact old v z
    · rw [List.mem_singleton.mp z]
      exact cl a b k (old a ha) cab
theorem IsTree.all_of {pl : List Nm} {ts : List Tie} (h : IsTree pl ts) {F : Nm → Prop} {u : Nm} (hu : u ∈ pl) (hF : F u) (cl : ∀ x y k, F x → Adj ts x y k → F y) : ∀ v ∈ pl, F v := by
  obtain ⟨os, es, g, p1, p2⟩ := h
  intro v hv
  exact g.all_of ⟨u, p1.mem_iff.mp hu, hF⟩ (fun x y k hx ha => cl x y k hx (ha.perm p2.symm)) v (p1.mem_iff.mp hv)
theorem IsTree.way {pl : List Nm} {ts : List Tie} (h : IsTree pl ts) {u v : Nm} (hu : u ∈ pl) (hv : v ∈ pl) : ∃ p L, Way ts u v p L := by
  refine h.all_of (F := fun v => ∃ p L, Way ts u v p L) hu ⟨_, _, .nil⟩ (fun x y k ⟨p, L, hw⟩ ha => ?_) v hv
  by_cases hy : y ∈ p
  · obtain ⟨q, M, hq, _⟩ := hw.upto hy
    exact ⟨q, M, hq⟩
  · exact ⟨_, _, .snoc hw ha hy⟩
open Classical in
/-- the way and its length -/
noncomputable def wayOf (ts : List Tie) (u v : Nm) : List Nm × Int := if h : ∃ x : List Nm × Int, Way ts u v x.1 x.2 then h.choose else ([], 0)
noncomputable def path (ts : List Tie) (u v : Nm) : List Nm := (wayOf ts u v).1
noncomputable def dist (ts : List Tie) (u v : Nm) : Int := (wayOf ts u v).2
theorem IsTree.is_way {pl : List Nm} {ts : List Tie} (h : IsTree pl ts) {u v : Nm} {p : List Nm} {L : Int} (w : Way ts u v p L) : path ts u v = p ∧ dist ts u v = L := by
  have hx : ∃ x : List Nm × Int, Way ts u v x.1 x.2 := ⟨(p, L), w⟩
  unfold path dist wayOf
  rw [dif_pos hx]
  exact h.one_way hx.choose_spec w
theorem IsTree.the_way {pl : List Nm} {ts : List Tie} (h : IsTree pl ts) {u v : Nm} (hu : u ∈ pl) (hv : v ∈ pl) : Way ts u v (path ts u v) (dist ts u v) := by
  obtain ⟨p, L, w⟩ := h.way hu hv
  obtain ⟨e1, e2⟩ := h.is_way w
  rw [e1, e2]
  exact w
/-- the way back -/
theorem Way.cons {ts : List Tie} {u v w : Nm} {p : List Nm} {L k : Int} (ha : Adj ts w u k) (h : Way ts u v p L) (hn : w ∉ p) : Way ts w v (w :: p) (k + L) := by
  induction h with
  | nil =>
    have := Way.snoc (ts := ts) (u := w) .nil ha (by simpa using fun z => hn (by rw [z]; simp))
    simpa using this
  | @snoc v x p L m h1 hb hx ih =>
    have hn1 : w ∉ p := fun z => hn (List.mem_append_left _ z)
    have hxw : x ∉ w :: p := fun z => by
      rcases List.mem_cons.mp z with z | z
      · exact hn (by rw [z]; simp)
      · exact hx z
    have := Way.snoc (ih hn1) hb hxw
    rw [← Int.add_assoc]
    exact this
theorem Way.rev {ts : List Tie} {u v : Nm} {p : List Nm} {L : Int} (h : Way ts u v p L) : Way ts v u p.reverse L := by
  induction h with
  | nil => exact .nil
  | @snoc v w p L k h1 ha hn ih =>
    rw [List.reverse_append]
    have := Way.cons ha.symm ih (fun z => hn (List.mem_reverse.mp z))
    rw [Int.add_comm L k]
    exact this
theorem IsTree.dist_symm {pl : List Nm} {ts : List Tie} (h : IsTree pl ts) {u v : Nm} (hu : u ∈ pl) (hv : v ∈ pl) : dist ts u v = dist ts v u ∧ path ts v u = (path ts u v).reverse := by
  obtain ⟨e1, e2⟩ := h.is_way (h.the_way hu hv).rev
  exact ⟨e2.symm, e1⟩
theorem IsTree.dist_self {pl : List Nm} {ts : List Tie} (h : IsTree pl ts) (u : Nm) : dist ts u u = 0 ∧ path ts u u = [u] := by
  obtain ⟨e1, e2⟩ := h.is_way (u := u) .nil
  exact ⟨e2, e1⟩
theorem Way.nonneg {ts : List Tie} (hk : ∀ e ∈ ts, 1 ≤ e.2.2) {u v : Nm} {p : List Nm} {L : Int} (h : Way ts u v p L) : 0 ≤ L ∧ (p.length : Int) ≤ L + 1 := by
  induction h with
  | nil => simp
  | @snoc v w p L k _ ha _ ih =>
    have h1 : 1 ≤ k := ha.elim (fun z => hk _ z) fun z => hk _ z
    rw [List.length_append, List.length_singleton]
    omega
section
open PySem.Spec PyProof.Rows L2
/-! ### dicts by places -/
def dkm (fs : List Nm) (f : Nm → V) : List (Key × V) := fs.map fun l => (Sum.inr (S l), f l)
theorem dkm_get {f : Nm → V} {x : Nm} : ∀ {fs : List Nm}, x ∈ fs → valV (dkm fs f) (Sum.inr (S x)) = some (f x)
  | [], h => by simp at h
  | a :: r, h => by
    show valV ((Sum.inr (S a), f a) :: dkm r f) _ = _
    by_cases e : a = x
    · subst e
      exact valV_pos rfl
    · rw [valV_neg (fun z => e (SX.S_inj (Sum.inr.inj z)))]
      refine dkm_get ?_
      rcases List.mem_cons.mp h with z | z
      · exact absurd z.symm e
      · exact z
theorem dkm_no {f : Nm → V} {x : Nm} : ∀ {fs : List Nm}, x ∉ fs → valV (dkm fs f) (Sum.inr (S x)) = none
  | [], _ => rfl
  | a :: r, h => by
    show valV ((Sum.inr (S a), f a) :: dkm r f) _ = _
    rw [valV_neg (fun z => h (List.mem_cons.mpr (.inl (SX.S_inj (Sum.inr.inj z)).symm)))]
    exact dkm_no fun z => h (List.mem_cons.mpr (.inr z))
theorem dkm_cong {f g : Nm → V} {fs : List Nm} (h : ∀ x ∈ fs, f x = g x) : dkm fs f = dkm fs g := List.map_congr_left fun a ha => by rw [h a ha]
theorem dkm_new {f : Nm → V} {x : Nm} {v : V} {fs : List Nm} (h : x ∉ fs) : putK (dkm fs f) (Sum.inr (S x)) v = dkm (fs ++ [x]) (fun z => if z = x then v else f z) := by
  rw [putK_new _ (dkm_no h)]
  unfold dkm
  rw [List.map_append]
  have e : fs.map (fun l => ((Sum.inr (S l) : Key), f l)) = fs.map (fun l => ((Sum.inr (S l) : Key), if l = x then v else f l)) := List.map_congr_left fun a ha => by rw [if_neg (fun (z : a = x) => h (z ▸ ha))]
  rw [e]
  show _ = _ ++ [((Sum.inr (S x) : Key), if x = x then v else f x)]
  rw [if_pos rfl]
theorem dkm_some {f : Nm → V} {x : Nm} {fs : List Nm} : (valV (dkm fs f) (Sum.inr (S x))).isSome = decide (x ∈ fs) := by
  by_cases h : x ∈ fs
  · rw [dkm_get h, decide_eq_true h]
    rfl
  · rw [dkm_no h, decide_eq_false h]
    rfl
theorem tkD {H : Hp} {D : Addr} {kvs : List (Key × V)} {o : HO} (h : H D = some (.dK kvs)) : TK H (upd H D o) :=
  ⟨fun b xs z => by rw [upd_ne (ne_of z h (by intro q; cases q))]; exact z, fun b u xs z => by rw [upd_ne (ne_of z h (by intro q; cases q))]; exact z⟩
/-! ### a walk through a tree: fs come to, st to be gone on from, ex being gone on from -/
structure Wk (pl : List Nm) (ts : List Tie) (u : Nm) (fs st : List Nm) (prev : Nm → Nm) (ex : Nm → Prop) : Prop where
  nd : fs.Nodup
  sub : ∀ x ∈ fs, x ∈ pl
  sti : ∀ x ∈ st, x ∈ fs
  hu : u ∈ fs
  cl : ∀ x ∈ fs, ∀ y ∈ path ts u x, y ∈ fs
  pr : ∀ x ∈ fs, x ≠ u → prev x ∈ fs ∧ path ts u x = path ts u (prev x) ++ [x]
  done : ∀ x ∈ fs, x ∉ st → ¬ ex x → ∀ y k, Adj ts x y k → y ∈ fs
theorem Wk.start {pl : List Nm} {ts : List Tie} (h : IsTree pl ts) {u : Nm} (hu : u ∈ pl) : Wk pl ts u [u] [u] (fun _ => u) (fun _ => False) := by
  refine ⟨by simp, fun x hx => ?_, fun x hx => hx, by simp, fun x hx => ?_, fun x hx n => ?_, fun x hx n => absurd hx n⟩
  · rw [List.mem_singleton.mp hx]
    exact hu
  · rw [List.mem_singleton.mp hx, (h.dist_self u).2]
    exact fun y hy => hy
  · exact absurd (List.mem_singleton.mp hx) n
theorem Wk.pop {pl : List Nm} {ts : List Tie} {u h : Nm} {fs st : List Nm} {prev : Nm → Nm} (w : Wk pl ts u fs (st ++ [h]) prev (fun _ => False)) : h ∈ fs ∧ Wk pl ts u fs st prev (fun x => x = h) := by
  refine ⟨w.sti h (by simp), w.nd, w.sub, fun x hx => w.sti x (List.mem_append_left _ hx), w.hu, w.cl, w.pr, fun x hx n ne => w.done x hx (fun z => ?_) (fun z => z)⟩
  rcases List.mem_append.mp z with z | z
  · exact n z
  · exact ne (List.mem_singleton.mp z)
theorem Wk.push {pl : List Nm} {ts : List Tie} (tr : IsTree pl ts) {u h y : Nm} {k : Int} {fs st : List Nm} {prev : Nm → Nm} {ex : Nm → Prop} (w : Wk pl ts u fs st prev ex) (hh : h ∈ fs) (ha : Adj ts h y k) (hy : y ∉ fs) :
    dist ts u y = dist ts u h + k ∧ Wk pl ts u (fs ++ [y]) (st ++ [y]) (fun z => if z = y then h else prev z) ex := by
  have wh := tr.the_way (w.sub u w.hu) (w.sub h hh)
  have wy := Way.snoc wh ha fun z => hy (w.cl h hh y z)
  obtain ⟨e1, e2⟩ := tr.is_way wy
  have yp : y ∈ pl := by
    rcases ha with z | z
    · exact (tr.ties _ z).2.1
    · exact (tr.ties _ z).1
  refine ⟨e2, nd_snoc' w.nd hy, fun x hx => ?_, fun x hx => ?_, List.mem_append_left _ w.hu, fun x hx z hz => ?_, fun x hx n => ?_, fun x hx n ne z m hz => ?_⟩
  · rcases List.mem_append.mp hx with z | z
    · exact w.sub x z
    · rw [List.mem_singleton.mp z]
      exact yp
  · rcases List.mem_append.mp hx with z | z
    · exact List.mem_append_left _ (w.sti x z)
    · exact List.mem_append_right _ z
  · rcases List.mem_append.mp hx with q | q
    · exact List.mem_append_left _ (w.cl x q z hz)
    · rw [List.mem_singleton.mp q, e1] at hz
      rcases List.mem_append.mp hz with r | r
      · exact List.mem_append_left _ (w.cl h hh z r)
      · exact List.mem_append_right _ r
  · rcases List.mem_append.mp hx with q | q
    · have xy : x ≠ y := fun e => hy (e ▸ q)
      show (if x = y then h else prev x) ∈ fs ++ [y] ∧ path ts u x = path ts u (if x = y then h else prev x) ++ [x]
      rw [if_neg xy]
      exact ⟨List.mem_append_left _ (w.pr x q n).1, (w.pr x q n).2⟩
    · have xy := List.mem_singleton.mp q
      show (if x = y then h else prev x) ∈ fs ++ [y] ∧ path ts u x = path ts u (if x = y then h else prev x) ++ [x]
      rw [if_pos xy, xy]
      exact ⟨List.mem_append_left _ hh, e1⟩
  · rcases List.mem_append.mp hx with q | q
    · exact List.mem_append_left _ (w.done x q (fun r => n (List.mem_append_left _ r)) ne z m hz)
    · exact absurd (List.mem_append_right _ q) n
theorem Wk.shut {pl : List Nm} {ts : List Tie} {u h : Nm} {fs st : List Nm} {prev : Nm → Nm} (w : Wk pl ts u fs st prev (fun x => x = h)) (hd : ∀ y k, Adj ts h y k → y ∈ fs) : Wk pl ts u fs st prev (fun _ => False) :=
  ⟨w.nd, w.sub, w.sti, w.hu, w.cl, w.pr, fun x hx n _ y k ha => by
    by_cases e : x = h
    · rw [e] at ha
      exact hd y k ha
    · exact w.done x hx n e y k ha⟩
theorem Wk.all {pl : List Nm} {ts : List Tie} (tr : IsTree pl ts) {u : Nm} {fs : List Nm} {prev : Nm → Nm} (w : Wk pl ts u fs [] prev (fun _ => False)) : ∀ x, x ∈ fs ↔ x ∈ pl := fun x =>
  ⟨w.sub x, fun hx => tr.all_of (F := fun z => z ∈ fs) (w.sub u w.hu) w.hu (fun a b k ha hab => w.done a ha (by simp) (fun z => z) b k hab) x hx⟩
structure Fine (pl : List Nm) (ts : List Tie) : Prop where
  tree : IsTree pl ts
  ok : ∀ l ∈ pl, NameOk l
  len : pl.length ≤ 1000
theorem Fine.okT {pl : List Nm} {ts : List Tie} (F : Fine pl ts) {e : Tie} (he : e ∈ ts) : NameOk e.1 ∧ NameOk e.2.1 := by
  obtain ⟨i1, i2, _⟩ := F.tree.ties e he
  exact ⟨F.ok _ i1, F.ok _ i2⟩
theorem Fine.ne {pl : List Nm} {ts : List Tie} (F : Fine pl ts) : pl ≠ [] := fun z => by
  have := F.tree.len
  rw [z] at this
  simp at this
theorem dt_pair {H : Hp} {v : V} {d e : PyData} (h : Dt H v (.tuple [d, e])) (ne : ∀ l : Nm, e ≠ strD l) : ∃ (a : Addr) (x y : V), v = .ref a ∧ H a = some (.tup [x, y]) ∧ Dt H x d ∧ Dt H y e := by
  cases h with
  | tup ha hs =>
    cases hs with
    | cons h1 hr =>
      cases hr with
      | cons h2 hn =>
        cases hn
        exact ⟨_, _, _, rfl, ha, h1, h2⟩
  | @tupZ a pl _ o e _ _ _ =>
    exfalso
    cases pl with
    | nil => cases e
    | cons l r =>
      cases r with
      | nil => cases e
      | cons l2 r2 => exact ne l2 (List.cons.inj (List.cons.inj e).2).1
theorem dt_tup {H : Hp} {v : V} {ds : List PyData} (h : Dt H v (.tuple ds)) (ne : ds ≠ [] → ∃ d ∈ ds, ∀ l : Nm, d ≠ strD l) : ∃ (a : Addr) (xs : List V), v = .ref a ∧ H a = some (.tup xs) ∧ DtAll H xs ds := by
  cases h with
  | tup ha hs => exact ⟨_, _, rfl, ha, hs⟩
  | @tupZ a pl _ o e n _ _ =>
    exfalso
    obtain ⟨d, hd, no⟩ := ne (by rw [e]; simpa using n)
    rw [e] at hd
    obtain ⟨l, _, z⟩ := List.mem_map.mp hd
    exact no l z.symm
theorem dt_names {H : Hp} {v : V} {pl : List Nm} (h : Dt H v (.tuple (pl.map strD))) : ∃ a : Addr, v = .ref a ∧ TupAt H a ((pl.map S).map V.str) := by
  have inj : ∀ {p q : List Nm}, p.map strD = q.map strD → p = q := by
    intro p
    induction p with
    | nil =>
      intro q e
      cases q with
      | nil => rfl
      | cons _ _ => cases e
    | cons a r ih =>
      intro q e
      cases q with
      | nil => cases e
      | cons b t =>
        have e' := List.cons.inj e
        have h1 : S a = S b := PyData.str.inj e'.1
        rw [SX.S_inj h1, ih e'.2]
  generalize hd : pl.map strD = ds at h
  cases h with
  | tup ha hs =>
    subst hd
    rw [DtAll.strs hs] at ha
    exact ⟨_, rfl, .inl ha⟩
  | @tupZ a pl2 _ o e n d ha =>
    rw [← inj (hd.trans e)] at ha
    exact ⟨_, rfl, .inr ⟨o, d, ha⟩⟩
theorem tie_no (e : Tie) (l : Nm) : tieD e ≠ strD l := fun z => nomatch z
/-- a tree in the heap: its parts -/
theorem dt_tree {H : Hp} {v : V} {pl : List Nm} {ts : List Tie} (h : Dt H v (treeD pl ts)) : ∃ (t a b : Addr) (vs : List V), v = .ref t ∧ H t = some (.tup [.ref a, .ref b]) ∧ TupAt H a ((pl.map S).map V.str) ∧ H b = some (.tup vs) ∧ DtAll H vs (ts.map tieD) := by
  obtain ⟨t, x, y, rfl, ht, hx, hy⟩ := dt_pair h fun l z => nomatch z
  obtain ⟨a, rfl, ha⟩ := dt_names hx
  obtain ⟨b, vs, rfl, hb, hv⟩ := dt_tup hy fun n => by
    cases ts with
    | nil => exact absurd rfl n
    | cons e r => exact ⟨tieD e, List.mem_cons_self .., tie_no e⟩
  exact ⟨t, a, b, vs, rfl, ht, ha, hb, hv⟩
theorem dt_tie {H : Hp} {v : V} {e : Tie} (h : Dt H v (tieD e)) : ∃ t : Addr, v = .ref t ∧ H t = some (.tup [.str (S e.1), .str (S e.2.1), .int e.2.2]) := by
  obtain ⟨t, xs, rfl, ht, hs⟩ := dt_tup h fun _ => ⟨.int e.2.2, by simp [tieD], fun l z => nomatch z⟩
  cases hs with
  | cons h1 hr =>
    cases hr with
    | cons h2 hr =>
      cases hr with
      | cons h3 hr =>
        cases hr
        cases h1
        cases h2
        cases h3
        exact ⟨t, rfl, ht⟩
end
end Far

namespace Far
open PySem PySem.Spec PyProof.Rows L2
section
variable {X : Cx}
/-- name = {k: v for ..} on one line, the name a local one -/
theorem ps_setDc {i : Nat} {y : Str} {py spos pos : Pos} {kx vx tg iter : Expr} {ifs : List Expr} {scope : Scope} {own : List (Str × Nat)} {wi : TI} {g : TG} {tt : TT} {tk tv : TE}
    (hc : X.calm = true) (hN : X.N.Nodup) (hy : X.N[i]? = some y) (hyl : X.env.scope.names.lookup y = some .local) (hsw : swapsWith (.DictComp kx vx [⟨tg, iter, ifs, 0⟩] scope pos) (some (.Name y py)) spos.line X.env = pure true)
    (hi : PI X tg iter wi) (ok : BlkOk X.N X.env.scope scope own)
    (hg : ∀ (s : Shared) (H : Hp) (C : Addr) (l : List (Str × Addr)) (fp : List Addr), PG (X.blk s H scope (compEnvC scope l C X.env) fp) tg g)
    (ht : ∀ (s : Shared) (H : Hp) (C : Addr) (l : List (Str × Addr)) (fp : List Addr), PTs (X.blk s H scope (compEnvC scope l C X.env) fp) ifs tt)
    (hk : ∀ (s : Shared) (H : Hp) (C : Addr) (l : List (Str × Addr)) (fp : List Addr), PE (X.blk s H scope (compEnvC scope l C X.env) fp) kx tk)
    (hv : ∀ (s : Shared) (H : Hp) (C : Addr) (l : List (Str × Addr)) (fp : List Addr), PE (X.blk s H scope (compEnvC scope l C X.env) fp) vx tv)
    (hs : ∀ x, foldedSetIterable iter X.env x = pure x := by intro _; rfl) : PS X (.Assign [.Name y py] (.DictComp kx vx [⟨tg, iter, ifs, 0⟩] scope pos) spos) (tAsg (tDc wi g tt tk tv (own.map (·.2))) (gName i)) := by
  refine ⟨fun pins s σ H D I h => ?_⟩
  replace h : tDc wi g tt tk tv (own.map (·.2)) σ H (fun v H1 => gName i v σ H1 D.nx) := h
  rw [exec_Assign_Name_used _ _ _ _ hsw]
  refine wpAny_bind (wpAny_standAt (wpAny_bind ?_))
  show wpAny _ X.A (do let _ ← comprehension (.DictComp kx vx [⟨tg, iter, ifs, 0⟩] scope pos) scope X.env (firstIterPos [⟨tg, iter, ifs, 0⟩] pos) newDict false (eval iter X.env) (some (assign (.Name y py) X.env))) _ _ s
  refine wpAny_bind (thn (dc_core (Qf := fun _ s1 => SP X pins D .next s1) hc hN I hi ok hg ht hk hv hs h fun L C s1 m H1 I1 q hn f => ?_) fun _ s1 z => wpAny_pure (wpAny_pure z))
  show wpAny _ _ (assign (.Name y py) X.env (.ref L)) _ _ _
  obtain ⟨f0, f1, f2, f3, f4, f5⟩ := f
  refine wpAny_assign_Name (store_ok2 (v := V.ref L) I1 hN hy (.inl hyl) rfl (fun s2 I2 ⟨a, sb, ha⟩ => ⟨m, hn.sameBut sb ?_, fun h3 sb3 => ?_⟩) (.inr hyl))
  · rcases ha with z | z
    · exact z ▸ f1
    · exact fun e => f4 y a z e.symm
  · exact ⟨_, H1, I2.turned (t' := s2.toks) (fun b o hb e => (sb3.2 b hb).trans e) f0 f1 f3 f4 f5, q⟩
theorem swD_true {kx vx : Expr} {gs : List Comprehension} {scope : Scope} {pos py : Pos} {y : Str} {l : Nat} {env : Env} (hk : env.scope.kind = .function) (hy : env.scope.names.lookup y = some .local) (hl : (py.line == pos.line) = true)
    (ha : (scope.names.any fun (n, k) => n == y && (k == .local || k == .cell)) = false) : swapsWith (.DictComp kx vx gs scope pos) (some (.Name y py)) l env = pure true := by
  have e1 : env.kindOf y = some .local := hy
  have e2 : env.blockKind = .function := by unfold Env.blockKind; rw [hk]; rfl
  unfold swapsWith
  simp only [e2, e1, ha, Expr.pos, hl]
  rfl
end
end Far

namespace Far
open PySem PySem.Spec PyProof.Rows L2
open C8 (pss_cut tCut)
open SX (S)
structure TxtW (mg : Str → Option Value) : Prop where
  tuple : mg "tuple" = none
/-! ### the ties of each place -/
def pairD (x : Nm × Int) : PyData := .tuple [.str (S x.1), .int x.2]
theorem dt_pairD {H : Hp} {v : V} {x : Nm × Int} (h : Dt H v (pairD x)) : ∃ t : Addr, v = .ref t ∧ H t = some (.tup [.str (S x.1), .int x.2]) := by
  obtain ⟨t, a, b, rfl, ht, h1, h2⟩ := dt_pair h fun l z => nomatch z
  cases h1
  cases h2
  exact ⟨t, rfl, ht⟩
/-- at D: for each place a list of its own, of the places tied to it with the ties' lengths -/
structure BesideAt (H : Hp) (D : Addr) (pl : List Nm) (ad : Nm → Addr) (nb : Nm → List (Nm × Int)) : Prop where
  dict : H D = some (.dK (dkm pl fun l => .ref (ad l)))
  each : ∀ l ∈ pl, ∃ vs, H (ad l) = some (.lst vs) ∧ DtAll H vs ((nb l).map pairD)
  inj : ∀ l ∈ pl, ∀ m ∈ pl, ad l = ad m → l = m
def nbAdd (nb : Nm → List (Nm × Int)) (a : Nm) (x : Nm × Int) : Nm → List (Nm × Int) := fun l => if l = a then nb l ++ [x] else nb l
theorem BesideAt.keep {H H' : Hp} {D : Addr} {pl : List Nm} {ad : Nm → Addr} {nb : Nm → List (Nm × Int)} (b : BesideAt H D pl ad nb) (s : Same H H') : BesideAt H' D pl ad nb :=
  ⟨s _ _ b.dict, fun l hl => let ⟨vs, h1, h2⟩ := b.each l hl; ⟨vs, s _ _ h1, DtAll.keep (TK.of s) h2⟩, b.inj⟩
theorem BesideAt.ne {H : Hp} {D : Addr} {pl : List Nm} {ad : Nm → Addr} {nb : Nm → List (Nm × Int)} (b : BesideAt H D pl ad nb) {l : Nm} (hl : l ∈ pl) : ad l ≠ D := by
  obtain ⟨vs, h, _⟩ := b.each l hl
  exact ne_of h b.dict (by intro z; cases z)
theorem BesideAt.add {H : Hp} {D : Addr} {pl : List Nm} {ad : Nm → Addr} {nb : Nm → List (Nm × Int)} (b : BesideAt H D pl ad nb) {a : Nm} (ha : a ∈ pl) {x : Nm × Int} {v : V} {vs : List V} (hv : Dt H v (pairD x)) (hvs : H (ad a) = some (.lst vs)) :
    BesideAt (upd H (ad a) (.lst (vs ++ [v]))) D pl ad (nbAdd nb a x) := by
  have tk : TK H (upd H (ad a) (.lst (vs ++ [v]))) := TK.mut hvs
  refine ⟨by rw [upd_ne (b.ne ha).symm]; exact b.dict, fun l hl => ?_, b.inj⟩
  by_cases e : l = a
  · subst e
    obtain ⟨ws, h1, h2⟩ := b.each l hl
    rw [hvs] at h1
    cases h1
    refine ⟨_, upd_same, ?_⟩
    unfold nbAdd
    rw [if_pos rfl, List.map_append]
    exact DtAll.app (DtAll.keep tk h2) (.cons (Dt.keep tk hv) .nil)
  · obtain ⟨ws, h1, h2⟩ := b.each l hl
    refine ⟨ws, by rw [upd_ne (fun z => e (b.inj l hl a ha z))]; exact h1, ?_⟩
    unfold nbAdd
    rw [if_neg e]
    exact DtAll.keep tk h2
/-- the ties of a place, as the program takes them down -/
def nbOf : List Tie → Nm → List (Nm × Int) := List.foldl (fun nb e => nbAdd (nbAdd nb e.1 (e.2.1, e.2.2)) e.2.1 (e.1, e.2.2)) (fun _ => [])
theorem nbOf_snoc (ts : List Tie) (e : Tie) : nbOf (ts ++ [e]) = nbAdd (nbAdd (nbOf ts) e.1 (e.2.1, e.2.2)) e.2.1 (e.1, e.2.2) := by
  unfold nbOf
  rw [List.foldl_append]
  rfl
theorem list_rec_snoc {α : Type} {P : List α → Prop} (h0 : P []) (h1 : ∀ l x, P l → P (l ++ [x])) : ∀ l, P l := by
  intro l
  have : ∀ r : List α, P r.reverse := by
    intro r
    induction r with
    | nil => exact h0
    | cons x r ih =>
      rw [List.reverse_cons]
      exact h1 _ _ ih
  have q := this l.reverse
  rwa [List.reverse_reverse] at q
theorem nbAdd_mem {nb : Nm → List (Nm × Int)} {a l : Nm} {x y : Nm × Int} : y ∈ nbAdd nb a x l ↔ y ∈ nb l ∨ (l = a ∧ y = x) := by
  unfold nbAdd
  by_cases e : l = a
  · rw [if_pos e, List.mem_append, List.mem_singleton]
    simp [e]
  · rw [if_neg e]
    simp [e]
theorem nbOf_adj (ts : List Tie) : ∀ (l x : Nm) (k : Int), (x, k) ∈ nbOf ts l ↔ Adj ts l x k := by
  induction ts using list_rec_snoc with
  | h0 =>
    intro l x k
    constructor
    · intro h
      cases h
    · intro h
      rcases h with h | h <;> cases h
  | h1 ts e ih =>
    intro l x k
    rw [nbOf_snoc, nbAdd_mem, nbAdd_mem, ih]
    obtain ⟨a, b, m⟩ := e
    constructor
    · rintro ((h | ⟨h1, h2⟩) | ⟨h1, h2⟩)
      · exact h.elim (fun z => .inl (List.mem_append_left _ z)) fun z => .inr (List.mem_append_left _ z)
      · cases h2
        exact .inl (by rw [h1]; simp)
      · cases h2
        exact .inr (by rw [h1]; simp)
    · rintro (h | h) <;> rcases List.mem_append.mp h with z | z
      · exact .inl (.inl (.inl z))
      · have z := List.mem_singleton.mp z
        cases z
        exact .inl (.inr ⟨rfl, rfl⟩)
      · exact .inl (.inl (.inr z))
      · have z := List.mem_singleton.mp z
        cases z
        exact .inr ⟨rfl, rfl⟩
theorem nbAdd_len {nb : Nm → List (Nm × Int)} {a l : Nm} {x : Nm × Int} : (nbAdd nb a x l).length ≤ (nb l).length + 1 := by
  unfold nbAdd
  split
  · rw [List.length_append]
    exact Nat.le_refl _
  · omega
theorem nbOf_len (ts : List Tie) : ∀ l, (nbOf ts l).length ≤ 2 * ts.length := by
  induction ts using list_rec_snoc with
  | h0 => intro l; exact Nat.zero_le _
  | h1 ts e ih =>
    intro l
    rw [nbOf_snoc, List.length_append, List.length_singleton]
    have h1 := nbAdd_len (nb := nbAdd (nbOf ts) e.1 (e.2.1, e.2.2)) (a := e.2.1) (l := l) (x := (e.1, e.2.2))
    have h2 := nbAdd_len (nb := nbOf ts) (a := e.1) (l := l) (x := (e.2.1, e.2.2))
    have h3 := ih l
    omega
/-- another object changes -/
theorem BesideAt.off {H : Hp} {D g : Addr} {o : HO} {pl : List Nm} {ad : Nm → Addr} {nb : Nm → List (Nm × Int)} (b : BesideAt H D pl ad nb) (tk : TK H (upd H g o)) (n : D ≠ g) (na : ∀ l ∈ pl, ad l ≠ g) : BesideAt (upd H g o) D pl ad nb :=
  ⟨by rw [upd_ne n]; exact b.dict, fun l hl => let ⟨vs, h1, h2⟩ := b.each l hl; ⟨vs, by rw [upd_ne (na l hl)]; exact h1, DtAll.keep tk h2⟩, b.inj⟩
abbrev s_ties_of_each : Stmt := topS 9
abbrev N_ties_of_each : List Str := ["tree", "places", "ties", "beside", "one", "other", "length", "place"]
theorem sc_ties_of_each : FnScope N_ties_of_each ["tree"] (defScope s_ties_of_each) := ⟨rfl, rfl, rfl, by decide +kernel, rfl, by decide +kernel, by decide +kernel⟩
section
variable {P : Program} {w : World} {K : PySem.W.Frag} {mg : Str → Option Value} {base : Heap}
def spTies : Sp := fun vs H Q _ => ∃ (v : V) (pl : List Nm) (ts : List Tie), vs = [v] ∧ Dt H v (treeD pl ts) ∧ Fine pl ts ∧ ∀ (H' : Hp) (D : Addr) (ad : Nm → Addr), Same H H' → H D = none → BesideAt H' D pl ad (nbOf ts) → (∀ l ∈ pl, H (ad l) = none) → Q (.ref D) H'
theorem ok_ties_of_each {f : Addr} {fd : FuncData} (F : Fun K "_ties_of_each" "_ties_of_each" s_ties_of_each f fd) : FnOk P w K mg base CX0 1 f fd ["tree"] spTies := by
  refine F.ok sc_ties_of_each (fun vs H Q E h => ?_) (fun cdv A outer s H vs Q E hr h => ?_)
  · obtain ⟨v, pl, ts, rfl, _⟩ := h
    rfl
  · obtain ⟨v, pl, ts, rfl, hd, fine, q⟩ := h
    obtain ⟨t, a, b, vs, rfl, ht, ha, hb, hA⟩ := dt_tree hd
    refine ⟨_, (pss_cons (ps_asg (pv 0) (pg_tup rfl (pgs_cons (pg_name (i := 1) sc_ties_of_each.nd rfl (.inl rfl)) (pgs_cons (pg_name (i := 2) sc_ties_of_each.nd rfl (.inl rfl)) pgs_nil))))
      (pss_cons (ps_setDc (i := 3) (own := [("place", 7)]) (g := gName 7) (tt := tYes) rfl sc_ties_of_each.nd rfl rfl (swD_true rfl rfl rfl (by decide +kernel)) (pi_tup (pv 1)) (blkOk_by (N := N_ties_of_each) (sc := defScope s_ties_of_each) (by decide +kernel)) (fun _ _ _ _ _ => pg_name (i := 7) sc_ties_of_each.nd rfl (Or.inl rfl)) (fun _ _ _ _ _ => pts_nil) (fun _ _ _ _ _ => (pv 7)) (fun _ _ _ _ _ => (pe_lst pa_nil)))
      (pss_cut (ps_for PassesOwn.never rfl (pi_tup (pv 2)) (pg_tup rfl (pgs_cons (pg_name (i := 4) sc_ties_of_each.nd rfl (.inl rfl)) (pgs_cons (pg_name (i := 5) sc_ties_of_each.nd rfl (.inl rfl)) (pgs_cons (pg_name (i := 6) sc_ties_of_each.nd rfl (.inl rfl)) pgs_nil))))
        (pss_cons (ps_expr (pe_bm PySem.F.plainAttrs_list PySem.F.slot_list_append PySem.F.type_list_append mt_append (pe_dget (hu_of hr) (pv 3) (pv 4) (fun _ _ => rfl)) (pa_cons (pe_tup (pa_cons (pv 5) (pa_cons (pv 6) pa_nil))) pa_nil)))
        (pss_one (ps_expr (pe_bm PySem.F.plainAttrs_list PySem.F.slot_list_append PySem.F.type_list_append mt_append (pe_dget (hu_of hr) (pv 3) (pv 5) (fun _ _ => rfl)) (pa_cons (pe_tup (pa_cons (pv 4) (pa_cons (pv 6) pa_nil))) pa_nil))))))
      (pss_one (ps_ret (pv 3)))))), ?_⟩
    have nd := fine.tree.nodup
    have pl1 := fine.len
    have len := fine.tree.len
    have vl : vs.length = ts.length := by
      have := DtAll.len hA
      rwa [List.length_map] at this
    refine ⟨_, rfl, t, _, rfl, SqT.of ht, rfl, _, _, rfl, _, _, rfl, rfl, ?_⟩
    refine ⟨_, rfl, a, rfl, ⟨_, ha.sq⟩, fun D nD => ?_⟩
    have Da : D ≠ a := (ha.ne nD).symm
    refine dc_tup (K := K) (a := a) (xs := (pl.map S).map V.str) (fun i H' => ∃ ad : Nm → Addr, Same H H' ∧ BesideAt H' D (pl.take i) ad (fun _ => []) ∧ ∀ l ∈ pl.take i, H (ad l) = none) ⟨fun _ => 0, same_new (Same.refl H) nD, ⟨upd_same, fun l hl => (by cases hl), fun l hl => (by cases hl)⟩, fun l hl => (by cases hl)⟩ (fun i H' _ hP => ?_) (fun i x H' hi hP => ?_) (fun H' hP => ?_)
    · obtain ⟨_, sm, _⟩ := hP
      exact (ha.same sm).sq
    · obtain ⟨ad, sm, bs, fr⟩ := hP
      rw [List.getElem?_map, List.getElem?_map] at hi
      cases el : pl[i]? with
      | none =>
        rw [el] at hi
        cases hi
      | some l =>
        rw [el] at hi
        have ex : x = .str (S l) := (Option.some.inj hi).symm
        subst ex
        have ln : l ∉ pl.take i := fun hm => by
          obtain ⟨j, hj, ej⟩ := List.mem_take_iff_getElem.mp hm
          obtain ⟨hi', ei⟩ := List.getElem?_eq_some_iff.mp el
          have := (List.getElem_inj nd).mp (ej.trans ei.symm)
          omega
        have et : pl.take (i + 1) = pl.take i ++ [l] := by
          rw [List.take_add_one, el]
          rfl
        refine ⟨rfl, _, rfl, Nat.zero_le _, fun g ng => ?_⟩
        have gD : g ≠ D := (ne_of_none bs.dict ng).symm
        have hD : (upd H' g (.lst [])) D = some (.dK (dkm (pl.take i) fun l => .ref (ad l))) := by
          rw [upd_ne gD.symm]
          exact bs.dict
        refine ⟨_, Sum.inr (S l), rfl, hD, by unfold dkm; rw [List.length_map, List.length_take]; exact sz_lt (by omega), ?_⟩
        rw [dkm_new ln, et]
        have adg : ∀ m ∈ pl.take i, ad m ≠ g := fun m hm => by
          obtain ⟨ws, h1, _⟩ := bs.each m hm
          exact ne_of_none h1 ng
        refine ⟨fun z => if z = l then g else ad z, same_put (same_new sm ng) nD, ⟨?_, fun m hm => ?_, fun m hm m' hm' => ?_⟩, fun m hm => ?_⟩
        · rw [upd_same]
          refine congrArg (fun z => some (HO.dK z)) (dkm_cong fun z _ => ?_)
          by_cases e : z = l <;> simp [e]
        · rcases List.mem_append.mp hm with z | z
          · have ml : m ≠ l := fun e => ln (e ▸ z)
            obtain ⟨ws, h1, h2⟩ := bs.each m z
            refine ⟨ws, ?_, DtAll.keep ((TK.new ng).trans (tkD hD)) h2⟩
            rw [if_neg ml, upd_ne (bs.ne z), upd_ne (adg m z)]
            exact h1
          · rw [List.mem_singleton.mp z, if_pos rfl]
            exact ⟨[], by rw [upd_ne gD]; exact upd_same, .nil⟩
        · rcases List.mem_append.mp hm with z | z <;> rcases List.mem_append.mp hm' with y | y
          · have ml : m ≠ l := fun e => ln (e ▸ z)
            have ml' : m' ≠ l := fun e => ln (e ▸ y)
            rw [if_neg ml, if_neg ml']
            exact bs.inj m z m' y
          · have ml : m ≠ l := fun e => ln (e ▸ z)
            rw [if_neg ml, List.mem_singleton.mp y, if_pos rfl]
            exact fun e => absurd e (adg m z)
          · have ml' : m' ≠ l := fun e => ln (e ▸ y)
            rw [if_neg ml', List.mem_singleton.mp z, if_pos rfl]
            exact fun e => absurd e.symm (adg m' y)
          · rw [List.mem_singleton.mp z, List.mem_singleton.mp y]
            exact fun _ => rfl
        · rcases List.mem_append.mp hm with z | z
          · have ml : m ≠ l := fun e => ln (e ▸ z)
            show H (if m = l then g else ad m) = none
            rw [if_neg ml]
            exact fr m z
          · rw [List.mem_singleton.mp z]
            show H (if l = l then g else ad l) = none
            rw [if_pos rfl]
            exact sm.free ng
    · obtain ⟨ad, sm, bs, fr⟩ := hP
      rw [List.length_map, List.length_map, List.take_length] at bs fr
      refine ⟨fun σ2 H2 => ∃ x4 x5 x6, σ2 = [some (.ref t), some (.ref a), some (.ref b), some (.ref D), x4, x5, x6, none] ∧ Same H H2 ∧ BesideAt H2 D pl ad (nbOf ts), ?_, fun σ2 H2 hM => ?_⟩
      · refine ⟨_, rfl, b, rfl, ⟨_, SqT.of (sm _ _ hb)⟩, for_tup (K := K) (a := b) (xs := vs) (fun i σ2 H2 => ∃ x4 x5 x6, σ2 = [some (.ref t), some (.ref a), some (.ref b), some (.ref D), x4, x5, x6, none] ∧ Same H H2 ∧ BesideAt H2 D pl ad (nbOf (ts.take i)))
          ⟨none, none, none, rfl, sm, bs⟩ (fun i σ2 H2 _ hP => ?_) (fun i x σ2 H2 hi hP => ?_) (fun σ2 H2 hP => ?_)⟩
        · obtain ⟨_, _, _, _, sm, _⟩ := hP
          exact SqT.of (sm _ _ hb)
        · obtain ⟨x4, x5, x6, rfl, sm2, bs2⟩ := hP
          obtain ⟨d, hd, hx⟩ := DtAll.get hA hi
          rw [List.getElem?_map] at hd
          cases ee : ts[i]? with
          | none =>
            rw [ee] at hd
            cases hd
          | some e =>
            rw [ee] at hd
            have ed : d = tieD e := (Option.some.inj hd).symm
            subst ed
            obtain ⟨u, rfl, hu⟩ := dt_tie hx
            have em : e ∈ ts := List.mem_of_getElem? ee
            obtain ⟨i1, i2, k1, k2⟩ := fine.tree.ties e em
            have et : ts.take (i + 1) = ts.take i ++ [e] := by
              rw [List.take_add_one, ee]
              rfl
            have tl : (ts.take i).length ≤ 1000 := by
              rw [List.length_take]
              omega
            refine ⟨u, _, rfl, SqT.of (sm2 _ _ hu), rfl, _, _, rfl, _, _, rfl, _, _, rfl, rfl, ?_⟩
            -- beside[one].append
            obtain ⟨w1, g1, g2⟩ := bs2.each e.1 i1
            have l1 : w1.length = (nbOf (ts.take i) e.1).length := by
              have := DtAll.len g2
              rwa [List.length_map] at this
            have l1' := nbOf_len (ts.take i) e.1
            refine ⟨_, rfl, _, rfl, D, .ref (ad e.1), rfl, by rw [← dkm_get (f := fun l => V.ref (ad l)) i1]; exact DGet.k (k := Sum.inr (S e.1)) bs2.dict, .inl ⟨rfl, _, SqL.of g1⟩, _, rfl, _, rfl, (by show 2 ≤ sizeLine; decide), fun p np => ?_⟩
            have bs3 := bs2.keep (same_new (o := .tup [.str (S e.2.1), .int e.2.2]) (Same.refl H2) np)
            have g1' : (upd H2 p (.tup [.str (S e.2.1), .int e.2.2])) (ad e.1) = some (.lst w1) := by
              rw [upd_ne (ne_of_none g1 np)]
              exact g1
            refine ⟨_, _, _, rfl, rfl, g1', sz_lt (by omega), ?_⟩
            have bs4 := bs3.add i1 (x := (e.2.1, e.2.2)) (v := .ref p) (.tup upd_same (.cons (.str _) (.cons (.int _) .nil))) g1'
            have sm4 : Same H (upd (upd H2 p (.tup [.str (S e.2.1), .int e.2.2])) (ad e.1) (.lst (w1 ++ [.ref p]))) := same_put (same_new sm2 np) (fr _ i1)
            generalize upd (upd H2 p (.tup [.str (S e.2.1), .int e.2.2])) (ad e.1) (.lst (w1 ++ [.ref p])) = H4 at bs4 sm4
            -- beside[other].append
            obtain ⟨w2, g3, g4⟩ := bs4.each e.2.1 i2
            have l2 : w2.length = (nbAdd (nbOf (ts.take i)) e.1 (e.2.1, e.2.2) e.2.1).length := by
              have := DtAll.len g4
              rwa [List.length_map] at this
            have l2' := nbOf_len (ts.take i) e.2.1
            have l2'' := nbAdd_len (nb := nbOf (ts.take i)) (a := e.1) (l := e.2.1) (x := (e.2.1, e.2.2))
            refine ⟨_, rfl, _, rfl, D, .ref (ad e.2.1), rfl, by rw [← dkm_get (f := fun l => V.ref (ad l)) i2]; exact DGet.k (k := Sum.inr (S e.2.1)) bs4.dict, .inl ⟨rfl, _, SqL.of g3⟩, _, rfl, _, rfl, (by show 2 ≤ sizeLine; decide), fun p' np' => ?_⟩
            have bs5 := bs4.keep (same_new (o := .tup [.str (S e.1), .int e.2.2]) (Same.refl H4) np')
            have g3' : (upd H4 p' (.tup [.str (S e.1), .int e.2.2])) (ad e.2.1) = some (.lst w2) := by
              rw [upd_ne (ne_of_none g3 np')]
              exact g3
            refine ⟨_, _, _, rfl, rfl, g3', sz_lt (by omega), ?_⟩
            have bs6 := bs5.add i2 (x := (e.1, e.2.2)) (v := .ref p') (.tup upd_same (.cons (.str _) (.cons (.int _) .nil))) g3'
            refine ⟨_, _, _, rfl, same_put (same_new sm4 np') (fr _ i2), ?_⟩
            rw [et, nbOf_snoc]
            exact bs6
        · obtain ⟨x4, x5, x6, rfl, sm2, bs2⟩ := hP
          rw [vl, List.take_length] at bs2
          exact ⟨_, _, _, rfl, sm2, bs2⟩
      · obtain ⟨x4, x5, x6, rfl, sm2, bs2⟩ := hM
        exact ⟨_, rfl, q H2 D ad sm2 nD bs2 fr⟩
end
end Far

namespace Far
open PySem PySem.Spec PyProof.Rows L2
open C8 (pss_cut tCut)
open SX (S)
/-! ### a walk through a tree: fs come to, st to be gone on from, ex being gone on from -/
abbrev s_walk_from : Stmt := topS 8
abbrev N_walk_from : List Str := ["tree", "start", "beside", "back", "lengths", "ahead", "here", "place", "length"]
theorem sc_walk_from : FnScope N_walk_from ["tree", "start"] (defScope s_walk_from) := ⟨rfl, rfl, rfl, by decide +kernel, rfl, by decide +kernel, by decide +kernel⟩
section
variable {P : Program} {w : World} {K : PySem.W.Frag} {mg : Str → Option Value} {base : Heap}
/-- what a walk from u tells, at q -/
structure Walked (H : Hp) (q bk ln : Addr) (pl : List Nm) (ts : List Tie) (u : Nm) (fs : List Nm) (prev : Nm → Nm) : Prop where
  pair : H q = some (.tup [.ref bk, .ref ln])
  back : H bk = some (.dK (dkm fs fun x => .str (S (prev x))))
  lens : H ln = some (.dK (dkm fs fun x => .int (dist ts u x)))
  all : ∀ x, x ∈ fs ↔ x ∈ pl
  pr : ∀ x ∈ fs, x ≠ u → prev x ∈ fs ∧ path ts u x = path ts u (prev x) ++ [x]
def spWalk : Sp := fun vs H Q _ => ∃ (v : V) (pl : List Nm) (ts : List Tie) (u : Nm), vs = [v, .str (S u)] ∧ Dt H v (treeD pl ts) ∧ Fine pl ts ∧ u ∈ pl ∧ ∀ (H' : Hp) (q bk ln : Addr) (fs : List Nm) (prev : Nm → Nm), Same H H' → Walked H' q bk ln pl ts u fs prev → Q (.ref q) H'
theorem ok_walk_from {f : Addr} {fd : FuncData} (F : Fun K "walk_from" "walk_from" s_walk_from f fd) (C_ties_of_each : Cal P w K mg base 1 "_ties_of_each" spTies) : FnOk P w K mg base CX0 2 f fd ["tree", "start"] spWalk := by
  refine F.ok sc_walk_from (fun vs H Q E h => ?_) (fun cdv A outer s H vs Q E hr h => ?_)
  · obtain ⟨v, pl, ts, u, rfl, _⟩ := h
    rfl
  · obtain ⟨v, pl, ts, u, rfl, hd, fine, hu, q⟩ := h
    refine ⟨_, (pss_cons (ps_set (i := 2) sc_walk_from.nd rfl (.inl rfl) (pe_c C_ties_of_each hr (by decide) rfl (pa_cons (pv 0) pa_nil)))
      (pss_cons (ps_set (i := 3) sc_walk_from.nd rfl (.inl rfl) (pe_disp (pps_cons (pv 1) (pv 1) pps_nil) (by rfl) (by rfl) (fun z => by cases z) (by decide)))
      (pss_cons (ps_set (i := 4) sc_walk_from.nd rfl (.inl rfl) (pe_disp (pps_cons (pv 1) pe_int pps_nil) (by rfl) (by rfl) (fun z => by cases z) (by decide)))
      (pss_cons (ps_set (i := 5) sc_walk_from.nd rfl (.inl rfl) (pe_lst (pa_cons (pv 1) pa_nil)))
      (pss_cut (ps_while PassesOwn.never (pt_truth (pv 5) (by intro _; rfl))
        (pss_cons (ps_set (i := 6) sc_walk_from.nd rfl (.inl rfl) (pe_bm0 PySem.F.plainAttrs_list PySem.F.slot_list_pop PySem.F.type_list_pop mt_pop (pv 5)))
        (pss_one (ps_for PassesOwn.never rfl (pi_list (pe_dget (hu_of hr) (pv 2) (pv 6) (fun _ _ => rfl))) (pg_tup rfl (pgs_cons (pg_name (i := 7) sc_walk_from.nd rfl (.inl rfl)) (pgs_cons (pg_name (i := 8) sc_walk_from.nd rfl (.inl rfl)) pgs_nil)))
          (pss_one (ps_if (pt_cmp (pc_dnotin (hu_of hr) (pv 7) (pv 3)))
            (pss_cons (ps_dput (hu_of hr) (pv 3) (pv 7) (pv 6) rfl)
            (pss_cons (ps_dput (hu_of hr) (pv 4) (pv 7) (pe_op op_add (pe_dget (hu_of hr) (pv 4) (pv 6) (fun _ _ => rfl)) (pv 8)) rfl)
            (pss_one (ps_expr (pe_bm PySem.F.plainAttrs_list PySem.F.slot_list_append PySem.F.type_list_append mt_append (pv 5) (pa_cons (pv 7) pa_nil))))))
            pss_nil))))))
      (pss_one (ps_ret (pe_tup (pa_cons (pv 3) (pa_cons (pv 4) pa_nil)))))))))), ?_⟩
    have tr := fine.tree
    have pl1 := fine.len
    have tl1 := tr.len
    refine ⟨_, rfl, v, pl, ts, rfl, hd, fine, fun H1 D ad S1 nD bs fr => ?_⟩
    -- back, lengths, ahead
    refine fun bk nbk => ⟨_, rfl, _, rfl, upd_same, [(Sum.inr (S u), .str (S u))], rfl, (by decide : 1 ≤ 15), ?_⟩
    rw [upd_upd]
    have S2 := same_new (o := .dK (mergeK [] [((Sum.inr (S u) : Key), V.str (S u))])) S1 nbk
    have bs2 := bs.keep (same_new (o := .dK (mergeK [] [((Sum.inr (S u) : Key), V.str (S u))])) (Same.refl H1) nbk)
    refine fun ln nln => ⟨_, rfl, upd_same, [(Sum.inr (S u), .int 0)], rfl, (by decide : 1 ≤ 15), ?_⟩
    rw [upd_upd]
    have S3 := same_new (o := .dK (mergeK [] [((Sum.inr (S u) : Key), V.int 0)])) S2 nln
    have bs3 := bs2.keep (same_new (o := .dK (mergeK [] [((Sum.inr (S u) : Key), V.int 0)])) (Same.refl _) nln)
    refine ⟨_, rfl, (by show 1 ≤ sizeLine; decide), fun ah nah => ?_⟩
    have S4 := same_new (o := .lst [.str (S u)]) S3 nah
    have bs4 := bs3.keep (same_new (o := .lst [.str (S u)]) (Same.refl _) nah)
    have bkln : bk ≠ ln := ne_of_none upd_same nln
    have bkah : bk ≠ ah := ne_of_none (by rw [upd_ne bkln]; exact upd_same) nah
    have lnah : ln ≠ ah := ne_of_none upd_same nah
    have Dbk : D ≠ bk := ne_of_none bs.dict nbk
    have Dln : D ≠ ln := ne_of_none bs2.dict nln
    have Dah : D ≠ ah := ne_of_none bs3.dict nah
    have bk0 : H bk = none := S1.free nbk
    have ln0 : H ln = none := S2.free nln
    have ah0 : H ah = none := S3.free nah
    have adbk : ∀ l ∈ pl, ad l ≠ bk := fun l hl => let ⟨_, h1, _⟩ := bs.each l hl; ne_of_none h1 nbk
    have adln : ∀ l ∈ pl, ad l ≠ ln := fun l hl => let ⟨_, h1, _⟩ := bs2.each l hl; ne_of_none h1 nln
    have adah : ∀ l ∈ pl, ad l ≠ ah := fun l hl => let ⟨_, h1, _⟩ := bs3.each l hl; ne_of_none h1 nah
    have hbk : (upd (upd (upd H1 bk (.dK (mergeK [] [((Sum.inr (S u) : Key), V.str (S u))]))) ln (.dK (mergeK [] [((Sum.inr (S u) : Key), V.int 0)]))) ah (.lst [.str (S u)])) bk = some (.dK (dkm [u] fun x => .str (S u))) := by
      rw [upd_ne bkah, upd_ne bkln]
      exact upd_same
    have hln : (upd (upd (upd H1 bk (.dK (mergeK [] [((Sum.inr (S u) : Key), V.str (S u))]))) ln (.dK (mergeK [] [((Sum.inr (S u) : Key), V.int 0)]))) ah (.lst [.str (S u)])) ln = some (.dK (dkm [u] fun x => .int (dist ts u x))) := by
      rw [upd_ne lnah]
      refine upd_same.trans ?_
      unfold dkm
      rw [List.map_singleton]
      show some (HO.dK [((Sum.inr (S u) : Key), V.int 0)]) = some (HO.dK [((Sum.inr (S u) : Key), V.int (dist ts u u))])
      rw [(tr.dist_self u).1]
    have hah : (upd (upd (upd H1 bk (.dK (mergeK [] [((Sum.inr (S u) : Key), V.str (S u))]))) ln (.dK (mergeK [] [((Sum.inr (S u) : Key), V.int 0)]))) ah (.lst [.str (S u)])) ah = some (.lst (([u].map S).map V.str)) := upd_same
    generalize upd (upd (upd H1 bk (.dK (mergeK [] [((Sum.inr (S u) : Key), V.str (S u))]))) ln (.dK (mergeK [] [((Sum.inr (S u) : Key), V.int 0)]))) ah (.lst [.str (S u)]) = H4 at S4 bs4 hbk hln hah
    refine ⟨fun σ' H' => ∃ (fs : List Nm) (prev : Nm → Nm) (x6 x7 x8 : Option V), σ' = [some v, some (.str (S u)), some (.ref D), some (.ref bk), some (.ref ln), some (.ref ah), x6, x7, x8] ∧ Same H H' ∧ H' bk = some (.dK (dkm fs fun x => .str (S (prev x)))) ∧ H' ln = some (.dK (dkm fs fun x => .int (dist ts u x))) ∧ Wk pl ts u fs [] prev (fun _ => False), ?_, fun σ' H' hM => ?_⟩
    · refine ⟨fun m σ' H' => ∃ (fs st : List Nm) (prev : Nm → Nm) (x6 x7 x8 : Option V), σ' = [some v, some (.str (S u)), some (.ref D), some (.ref bk), some (.ref ln), some (.ref ah), x6, x7, x8] ∧ Same H H' ∧ BesideAt H' D pl ad (nbOf ts) ∧ H' bk = some (.dK (dkm fs fun x => .str (S (prev x)))) ∧ H' ln = some (.dK (dkm fs fun x => .int (dist ts u x))) ∧ H' ah = some (.lst ((st.map S).map V.str)) ∧ Wk pl ts u fs st prev (fun _ => False) ∧ st.length ≤ fs.length ∧ 2 * fs.length + m = 2 * pl.length + st.length,
        ⟨2 * pl.length - 1, [u], [u], fun _ => u, none, none, none, rfl, S4, bs4, hbk, hln, hah, Wk.start tr hu, Nat.le_refl _, by have := List.length_pos_of_mem hu; simp; omega⟩, ?_⟩
      rintro m σ2 H2 ⟨fs, st, prev, x6, x7, x8, rfl, SM, bs5, hbk5, hln5, hah5, wk, sl, em⟩
      refine ⟨_, rfl, _, .inl ⟨_, SqL.of hah5, rfl⟩, ?_⟩
      rcases List.eq_nil_or_concat st with rfl | ⟨st', h, e⟩
      · exact ⟨fs, prev, x6, x7, x8, rfl, SM, hbk5, hln5, wk⟩
      · rw [List.concat_eq_append] at e
        subst e
        have ne : ((st' ++ [h]).map S).map V.str = (st'.map S).map V.str ++ [.str (S h)] := by
          rw [List.map_append, List.map_append]
          rfl
        rw [ne] at hah5 ⊢
        have nb : (!((st'.map S).map V.str ++ [V.str (S h)]).isEmpty) = true := by simp
        rw [nb]
        refine iteT ?_
        obtain ⟨hh, wk1⟩ := wk.pop
        have hpl := wk1.sub h hh
        have fl := nodup_sub_len fs pl wk.nd wk.sub
        rw [List.length_append, List.length_singleton] at em sl
        obtain ⟨ws, hw1, hw2⟩ := bs5.each h hpl
        have wl : ws.length = (nbOf ts h).length := by
          have := DtAll.len hw2
          rwa [List.length_map] at this
        refine ⟨fun σ' H' => ∃ (fs' st'' : List Nm) (prev' : Nm → Nm) (x6 x7 x8 : Option V), σ' = [some v, some (.str (S u)), some (.ref D), some (.ref bk), some (.ref ln), some (.ref ah), x6, x7, x8] ∧ Same H H' ∧ BesideAt H' D pl ad (nbOf ts) ∧ H' bk = some (.dK (dkm fs' fun x => .str (S (prev' x)))) ∧ H' ln = some (.dK (dkm fs' fun x => .int (dist ts u x))) ∧ H' ah = some (.lst ((st''.map S).map V.str)) ∧ Wk pl ts u fs' st'' prev' (fun _ => False) ∧ fs.length ≤ fs'.length ∧ fs'.length + st'.length = fs.length + st''.length, ?_, ?_⟩
        · rintro σ' H' ⟨fs', st'', prev', y6, y7, y8, e1, e2, e3, e4, e5, e6, e7, e8, e9⟩
          have fl' := nodup_sub_len fs' pl e7.nd e7.sub
          exact ⟨2 * pl.length + st''.length - 2 * fs'.length, by omega, fs', st'', prev', y6, y7, y8, e1, e2, e3, e4, e5, e6, e7, by omega, by omega⟩
        · refine ⟨_, rfl, .inl ⟨rfl, _, SqL.of hah5⟩, ah, _, .str (S h), rfl, rfl, hah5, by simp, ?_⟩
          rw [List.dropLast_concat]
          have hbk6 : (upd H2 ah (.lst ((st'.map S).map V.str))) bk = some (.dK (dkm fs fun x => .str (S (prev x)))) := by rw [upd_ne bkah]; exact hbk5
          have hln6 : (upd H2 ah (.lst ((st'.map S).map V.str))) ln = some (.dK (dkm fs fun x => .int (dist ts u x))) := by rw [upd_ne lnah]; exact hln5
          have hw6 : (upd H2 ah (.lst ((st'.map S).map V.str))) (ad h) = some (.lst ws) := by rw [upd_ne (adah h hpl)]; exact hw1
          have SM6 : Same H (upd H2 ah (.lst ((st'.map S).map V.str))) := same_put SM ah0
          have bs6 : BesideAt (upd H2 ah (.lst ((st'.map S).map V.str))) D pl ad (nbOf ts) := bs5.off (TK.mut hah5) Dah adah
          have hah6 : (upd H2 ah (.lst ((st'.map S).map V.str))) ah = some (.lst ((st'.map S).map V.str)) := upd_same
          generalize upd H2 ah (.lst ((st'.map S).map V.str)) = H6 at hbk6 hln6 hw6 SM6 bs6 hah6
          refine ⟨_, rfl, _, rfl, D, .ref (ad h), rfl, by rw [← dkm_get (f := fun l => V.ref (ad l)) hpl]; exact DGet.k (k := Sum.inr (S h)) bs6.dict, ad h, rfl, ⟨_, SqL.of hw6⟩, for_list (K := K) (a := ad h) (xs := ws) (fun i σ' H' => ∃ (fs' st'' : List Nm) (prev' : Nm → Nm) (x7 x8 : Option V), σ' = [some v, some (.str (S u)), some (.ref D), some (.ref bk), some (.ref ln), some (.ref ah), some (.str (S h)), x7, x8] ∧ Same H H' ∧ BesideAt H' D pl ad (nbOf ts) ∧ H' (ad h) = some (.lst ws) ∧ H' bk = some (.dK (dkm fs' fun x => .str (S (prev' x)))) ∧ H' ln = some (.dK (dkm fs' fun x => .int (dist ts u x))) ∧ H' ah = some (.lst ((st''.map S).map V.str)) ∧ Wk pl ts u fs' st'' prev' (fun x => x = h) ∧ fs.length ≤ fs'.length ∧ fs'.length + st'.length = fs.length + st''.length ∧ h ∈ fs' ∧ ∀ p ∈ (nbOf ts h).take i, p.1 ∈ fs')
            ⟨fs, st', prev, x7, x8, rfl, SM6, bs6, hw6, hbk6, hln6, hah6, wk1, Nat.le_refl _, rfl, hh, fun p hp => (by cases hp)⟩ (fun i σ' H' _ hP => ?_) (fun i x σ' H' hi hP => ?_) (fun σ' H' hP => ?_)⟩
          · obtain ⟨_, _, _, _, _, _, _, _, hw, _⟩ := hP
            exact SqL.of hw
          · obtain ⟨fs', st'', prev', y7, y8, rfl, SM7, bs7, hw7, hbk7, hln7, hah7, wk7, le7, em7, hh7, nb7⟩ := hP
            obtain ⟨ws', hw', hA7⟩ := bs7.each h hpl
            rw [hw7] at hw'
            cases hw'
            obtain ⟨d, hd', hx⟩ := DtAll.get hA7 hi
            rw [List.getElem?_map] at hd'
            cases ee : (nbOf ts h)[i]? with
            | none =>
              rw [ee] at hd'
              cases hd'
            | some yk =>
              obtain ⟨y, k⟩ := yk
              rw [ee] at hd'
              have ed : d = pairD (y, k) := (Option.some.inj hd').symm
              subst ed
              obtain ⟨g, rfl, hg⟩ := dt_pairD hx
              have adj : Adj ts h y k := (nbOf_adj ts h y k).mp (List.mem_of_getElem? ee)
              have et : (nbOf ts h).take (i + 1) = (nbOf ts h).take i ++ [(y, k)] := by
                rw [List.take_add_one, ee]
                rfl
              have fl' := nodup_sub_len fs' pl wk7.nd wk7.sub
              have szf : ∀ f : Nm → V, (dkm fs' f).length < sizeLine := fun f => by
                unfold dkm
                rw [List.length_map]
                exact sz_lt (by omega)
              refine ⟨g, _, rfl, SqT.of hg, rfl, _, _, rfl, _, _, rfl, rfl, ?_⟩
              refine ⟨_, rfl, _, rfl, bk, _, rfl, DGet.k (k := Sum.inr (S y)) hbk7, _, rfl, ?_⟩
              rw [dkm_some]
              by_cases hy : y ∈ fs'
              · rw [decide_eq_true hy]
                refine iteF ⟨fs', st'', prev', _, _, rfl, SM7, bs7, hw7, hbk7, hln7, hah7, wk7, le7, em7, hh7, fun p hp => ?_⟩
                rw [et] at hp
                rcases List.mem_append.mp hp with z | z
                · exact nb7 p z
                · rw [List.mem_singleton.mp z]
                  exact hy
              · rw [decide_eq_false hy]
                refine iteT ?_
                obtain ⟨e1, wk8⟩ := wk7.push tr hh7 adj hy
                -- back[place] = here
                refine ⟨_, rfl, _, rfl, _, rfl, bk, _, rfl, DPut.k (k := Sum.inr (S y)) hbk7 (szf _), ?_⟩
                rw [dkm_new hy]
                have SM8 := same_put (o := .dK (dkm (fs' ++ [y]) fun z => if z = y then V.str (S h) else .str (S (prev' z)))) SM7 bk0
                have bs8 := bs7.off (o := .dK (dkm (fs' ++ [y]) fun z => if z = y then V.str (S h) else .str (S (prev' z)))) (tkD hbk7) Dbk adbk
                have hln8 : (upd H' bk (.dK (dkm (fs' ++ [y]) fun z => if z = y then V.str (S h) else .str (S (prev' z))))) ln = some (.dK (dkm fs' fun x => .int (dist ts u x))) := by rw [upd_ne bkln.symm]; exact hln7
                have hah8 : (upd H' bk (.dK (dkm (fs' ++ [y]) fun z => if z = y then V.str (S h) else .str (S (prev' z))))) ah = some (.lst ((st''.map S).map V.str)) := by rw [upd_ne bkah.symm]; exact hah7
                have hw8 : (upd H' bk (.dK (dkm (fs' ++ [y]) fun z => if z = y then V.str (S h) else .str (S (prev' z))))) (ad h) = some (.lst ws) := by rw [upd_ne (adbk h hpl)]; exact hw7
                have hbk8 : (upd H' bk (.dK (dkm (fs' ++ [y]) fun z => if z = y then V.str (S h) else .str (S (prev' z))))) bk = some (.dK (dkm (fs' ++ [y]) fun z => .str (S (if z = y then h else prev' z)))) := by
                  rw [upd_same]
                  exact congrArg (fun z => some (HO.dK z)) (dkm_cong fun z _ => by by_cases q : z = y <;> simp [q])
                generalize upd H' bk (.dK (dkm (fs' ++ [y]) fun z => if z = y then V.str (S h) else .str (S (prev' z)))) = H8 at SM8 bs8 hln8 hah8 hw8 hbk8
                -- lengths[place] = lengths[here] + length
                refine ⟨_, rfl, _, rfl, ln, .int (dist ts u h), rfl, by rw [← dkm_get (f := fun x => V.int (dist ts u x)) hh7]; exact DGet.k (k := Sum.inr (S h)) hln8, _, rfl, _, _, rfl, rfl, _, rfl, _, rfl, ln, _, rfl, DPut.k (k := Sum.inr (S y)) hln8 (szf _), ?_⟩
                rw [dkm_new hy]
                have SM9 := same_put (o := .dK (dkm (fs' ++ [y]) fun z => if z = y then V.int (dist ts u h + k) else .int (dist ts u z))) SM8 ln0
                have bs9 := bs8.off (o := .dK (dkm (fs' ++ [y]) fun z => if z = y then V.int (dist ts u h + k) else .int (dist ts u z))) (tkD hln8) Dln adln
                have hbk9 : (upd H8 ln (.dK (dkm (fs' ++ [y]) fun z => if z = y then V.int (dist ts u h + k) else .int (dist ts u z)))) bk = some (.dK (dkm (fs' ++ [y]) fun z => .str (S (if z = y then h else prev' z)))) := by rw [upd_ne bkln]; exact hbk8
                have hah9 : (upd H8 ln (.dK (dkm (fs' ++ [y]) fun z => if z = y then V.int (dist ts u h + k) else .int (dist ts u z)))) ah = some (.lst ((st''.map S).map V.str)) := by rw [upd_ne lnah.symm]; exact hah8
                have hw9 : (upd H8 ln (.dK (dkm (fs' ++ [y]) fun z => if z = y then V.int (dist ts u h + k) else .int (dist ts u z)))) (ad h) = some (.lst ws) := by rw [upd_ne (adln h hpl)]; exact hw8
                have hln9 : (upd H8 ln (.dK (dkm (fs' ++ [y]) fun z => if z = y then V.int (dist ts u h + k) else .int (dist ts u z)))) ln = some (.dK (dkm (fs' ++ [y]) fun z => .int (dist ts u z))) := by
                  rw [upd_same]
                  refine congrArg (fun z => some (HO.dK z)) (dkm_cong fun z _ => ?_)
                  by_cases q : z = y
                  · rw [if_pos q, q, e1]
                  · rw [if_neg q]
                generalize upd H8 ln (.dK (dkm (fs' ++ [y]) fun z => if z = y then V.int (dist ts u h + k) else .int (dist ts u z))) = H9 at SM9 bs9 hbk9 hah9 hw9 hln9
                -- ahead.append(place)
                have stl : st''.length ≤ 3000 := by omega
                refine ⟨_, rfl, .inl ⟨rfl, _, SqL.of hah9⟩, _, rfl, ah, _, _, rfl, rfl, hah9, by rw [List.length_map, List.length_map]; exact sz_lt (by omega), ?_⟩
                refine ⟨fs' ++ [y], st'' ++ [y], _, _, _, rfl, same_put SM9 ah0, bs9.off (TK.mut hah9) Dah adah, by rw [upd_ne (adah h hpl)]; exact hw9, by rw [upd_ne bkah]; exact hbk9, by rw [upd_ne lnah]; exact hln9, ?_, wk8, by rw [List.length_append]; omega, by rw [List.length_append, List.length_append]; omega, List.mem_append_left _ hh7, fun p hp => ?_⟩
                · rw [upd_same, List.map_append, List.map_append]
                  rfl
                · rw [et] at hp
                  rcases List.mem_append.mp hp with z | z
                  · exact List.mem_append_left _ (nb7 p z)
                  · rw [List.mem_singleton.mp z]
                    exact List.mem_append_right _ (List.mem_singleton.mpr rfl)
          · obtain ⟨fs', st'', prev', y7, y8, rfl, SM7, bs7, hw7, hbk7, hln7, hah7, wk7, le7, em7, hh7, nb7⟩ := hP
            refine ⟨fs', st'', prev', _, _, _, rfl, SM7, bs7, hbk7, hln7, hah7, wk7.shut fun y k ha => ?_, le7, em7⟩
            rw [wl, List.take_length] at nb7
            exact nb7 _ ((nbOf_adj ts h y k).mpr ha)
    · obtain ⟨fs, prev, x6, x7, x8, rfl, SM, hbk5, hln5, wk⟩ := hM
      refine ⟨_, rfl, _, rfl, (by show 2 ≤ sizeLine; decide), fun p np => ?_⟩
      refine q _ p bk ln fs prev (same_new SM np) ⟨upd_same, by rw [upd_ne (ne_of_none hbk5 np)]; exact hbk5, by rw [upd_ne (ne_of_none hln5 np)]; exact hln5, wk.all tr, wk.pr⟩
end
end Far

namespace Far
open PySem PySem.Spec PyProof.Rows L2
open C8 (pss_cut tCut)
open SX (S)
theorem inV_strsT (l : Nm) (ls : List Nm) : inV (.str (S l)) ((ls.map S).map V.str) = decide (l ∈ ls) := inV_strs l ls
theorem pl0_of {H : Hp} {v : V} {pl : List Nm} {ts : List Tie} (h : Dt H v (treeD pl ts)) : ∃ (t a b : Addr), v = .ref t ∧ H t = some (.tup [.ref a, .ref b]) ∧ TupAt H a ((pl.map S).map V.str) := by
  obtain ⟨t, a, b, vs, e, h1, h2, _⟩ := dt_tree h
  exact ⟨t, a, b, e, h1, h2⟩
abbrev s_check_places : Stmt := topS 7
abbrev N_check_places : List Str := ["tree", "names", "name"]
theorem sc_check_places : FnScope N_check_places ["tree", "names"] (defScope s_check_places) := ⟨rfl, rfl, rfl, by decide +kernel, rfl, by decide +kernel, by decide +kernel⟩
section
variable {P : Program} {w : World} {K : PySem.W.Frag} {mg : Str → Option Value} {base : Heap}
def spCheck : Sp := fun vs H Q _ => ∃ (v : V) (n : Addr) (pl ns : List Nm) (ts : List Tie), vs = [v, .ref n] ∧ Dt H v (treeD pl ts) ∧ H n = some (.tup ((ns.map S).map V.str)) ∧ (∀ x ∈ ns, x ∈ pl) ∧ Q .non H
theorem ok_check_places {f : Addr} {fd : FuncData} (F : Fun K "check_places" "check_places" s_check_places f fd) : FnOk P w K mg base CX0 1 f fd ["tree", "names"] spCheck := by
  refine F.ok sc_check_places (fun vs H Q E h => ?_) (fun cdv A outer s H vs Q E hr h => ?_)
  · obtain ⟨v, n, pl, ns, ts, rfl, _⟩ := h
    rfl
  · obtain ⟨v, n, pl, ns, ts, rfl, hd, hn, sub, q⟩ := h
    obtain ⟨t, a, b, rfl, ht, ha⟩ := pl0_of hd
    refine ⟨_, (pss_one (ps_for PassesOwn.never rfl (pi_tup (pv 1)) (pg_name (i := 2) sc_check_places.nd rfl (.inl rfl))
        (pss_one (ps_if (pt_cmpR op_notIn_seq (pv 2) (pe_ix ix_tup (pv 0) pe_int (fun _ _ => rfl)) rfl)
          (pss_one ps_never)
          pss_nil)))), ?_⟩
    refine ⟨_, rfl, n, rfl, ⟨_, SqT.of hn⟩, for_tup (K := K) (a := n) (xs := (ns.map S).map V.str) (fun i σ' H' => (∃ x2, σ' = [some (.ref t), some (.ref n), x2]) ∧ H' = H) ⟨⟨_, rfl⟩, rfl⟩ (fun i σ' H' _ hP => hP.2 ▸ SqT.of hn) (fun i x σ' H' hi hP => ?_) (fun σ' H' hP => hP.2 ▸ q)⟩
    obtain ⟨⟨x2, rfl⟩, rfl⟩ := hP
    obtain ⟨l, hl, rfl⟩ := strs_at (List.mem_of_getElem? hi)
    refine ⟨_, rfl, _, rfl, t, _, 0, .ref a, rfl, rfl, SqT.of ht, atI_nat (j := 0) rfl, a, _, rfl, .inr ha.sq, rfl, flat_strs pl, _, rfl, ?_⟩
    rw [inV_strs, decide_eq_true (sub l hl)]
    exact iteF ⟨⟨_, rfl⟩, rfl⟩
end
abbrev s_lengths_from : Stmt := topS 6
abbrev N_lengths_from : List Str := ["tree", "place", "_", "lengths", "name"]
theorem sc_lengths_from : FnScope N_lengths_from ["tree", "place"] (defScope s_lengths_from) := ⟨rfl, rfl, rfl, by decide +kernel, rfl, by decide +kernel, by decide +kernel⟩
section
variable {P : Program} {w : World} {K : PySem.W.Frag} {mg : Str → Option Value} {base : Heap}
def spLens : Sp := fun vs H Q _ => ∃ (v : V) (pl : List Nm) (ts : List Tie) (u : Nm), vs = [v, .str (S u)] ∧ Dt H v (treeD pl ts) ∧ Fine pl ts ∧ u ∈ pl ∧ ∀ (H' : Hp) (q : Addr), Same H H' → H q = none → H' q = some (.tup (pl.map fun x => .int (dist ts u x))) → Q (.ref q) H'
theorem lens_body {H1 : Hp} {q bk ln : Addr} {pl fs : List Nm} {ts : List Tie} {u : Nm} {prev : Nm → Nm} (W : Walked H1 q bk ln pl ts u fs prev) {x : Nm} (hx : x ∈ pl) {H' : Hp} (s : H' ln = H1 ln) : DGet H' ln (.str (S x)) (some (.int (dist ts u x))) := by
  have e := W.lens
  rw [← s] at e
  have := DGet.k (k := Sum.inr (S x)) e
  rw [dkm_get ((W.all x).mpr hx)] at this
  exact this
theorem ok_lengths_from {f : Addr} {fd : FuncData} (F : Fun K "lengths_from" "lengths_from" s_lengths_from f fd) (T : TxtW mg) (Ccheck_places : Cal P w K mg base 1 "check_places" spCheck) (Cwalk_from : Cal P w K mg base 2 "walk_from" spWalk) : FnOk P w K mg base CX0 3 f fd ["tree", "place"] spLens := by
  refine F.ok sc_lengths_from (fun vs H Q E h => ?_) (fun cdv A outer s H vs Q E hr h => ?_)
  · obtain ⟨v, pl, ts, u, rfl, _⟩ := h
    rfl
  · obtain ⟨v, pl, ts, u, rfl, hd, fine, hu, q⟩ := h
    obtain ⟨t, a, b, rfl, ht, ha⟩ := pl0_of hd
    refine ⟨_, (pss_cons (ps_expr (pe_c Ccheck_places hr (by decide) rfl (pa_cons (pv 0) (pa_cons (pe_tup (pa_cons (pv 1) pa_nil)) pa_nil))))
      (pss_cons (ps_asg (pe_c Cwalk_from hr (by decide) rfl (pa_cons (pv 0) (pa_cons (pv 1) pa_nil))) (pg_tup rfl (pgs_cons (pg_name (i := 2) sc_lengths_from.nd rfl (.inl rfl)) (pgs_cons (pg_name (i := 3) sc_lengths_from.nd rfl (.inr rfl)) pgs_nil))))
      (pss_one (ps_ret (pe_tupleOf (by rfl) T.tuple (pe_lc (own := [("name", 4)]) (g := gName 4) (tt := tYes) rfl sc_lengths_from.nd (pi_tup (pe_ix ix_tup (pv 0) pe_int (fun _ _ => rfl))) (blkOk_by (N := N_lengths_from) (sc := defScope s_lengths_from) (by decide +kernel)) (fun _ _ _ _ _ => pg_name (i := 4) sc_lengths_from.nd rfl (Or.inl rfl)) (fun _ _ _ _ _ => pts_nil) (fun _ _ _ _ _ => (pe_dget (hu_of hr) (pv 3) (pv 4) (fun _ _ => rfl))))))))), ?_⟩
    refine ⟨_, rfl, _, rfl, (by show 1 ≤ sizeLine; decide), fun p np => ?_⟩
    have s1 := same_new (o := .tup [.str (S u)]) (Same.refl H) np
    refine ⟨.ref t, p, pl, [u], ts, rfl, Dt.keep (TK.of s1) hd, upd_same, fun x hx => by rw [List.mem_singleton.mp hx]; exact hu, ?_⟩
    refine ⟨_, rfl, _, rfl, .ref t, pl, ts, u, rfl, Dt.keep (TK.of s1) hd, fine, hu, fun H1 g bk ln fs prev S1 W => ?_⟩
    have s2 := s1.trans S1
    refine ⟨g, _, rfl, SqT.of W.pair, rfl, _, _, rfl, _, _, rfl, rfl, ?_⟩
    refine ⟨_, rfl, t, _, 0, .ref a, rfl, rfl, SqT.of (s2 _ _ ht), atI_nat (j := 0) rfl, a, rfl, ⟨_, (ha.same s2).sq⟩, fun D nD => ?_⟩
    have Da : a ≠ D := (ha.same s2).ne nD
    have Dl : ln ≠ D := ne_of_none W.lens nD
    refine lc_tup (K := K) (a := a) (xs := (pl.map S).map V.str) (fun i H' => H' = upd H1 D (.lst ((pl.take i).map fun x => .int (dist ts u x)))) rfl (fun i H' _ hP => ?_) (fun i x H' hi hP => ?_) (fun H' hP => ?_)
    · rw [hP]
      exact ((ha.same s2).updN Da).sq
    · subst hP
      have pl1 := fine.len
      rw [List.getElem?_map, List.getElem?_map] at hi
      cases el : pl[i]? with
      | none =>
        rw [el] at hi
        cases hi
      | some l =>
        rw [el] at hi
        have ex : x = .str (S l) := (Option.some.inj hi).symm
        subst ex
        refine ⟨rfl, _, rfl, _, rfl, ln, .int (dist ts u l), rfl, lens_body W (List.mem_of_getElem? el) (upd_ne Dl), _, upd_same, by rw [List.length_map, List.length_take]; exact sz_lt (by omega), ?_⟩
        rw [upd_upd, List.take_add_one, el, List.map_append]
        rfl
    · subst hP
      rw [List.length_map, List.length_map, List.take_length]
      have s3 := same_new (o := .lst (pl.map fun x => V.int (dist ts u x))) s2 nD
      refine .inl ⟨D, _, rfl, SqL.of upd_same, fun r nr => ?_⟩
      exact q _ r (same_new s3 nr) (s3.free nr) upd_same
end
end Far

namespace Far
open PySem PySem.Spec PyProof.Rows L2
open C8 (pss_cut tCut)
open SX (S)
abbrev s_length_between : Stmt := topS 5
abbrev N_length_between : List Str := ["tree", "one", "other", "_", "lengths"]
theorem sc_length_between : FnScope N_length_between ["tree", "one", "other"] (defScope s_length_between) := ⟨rfl, rfl, rfl, by decide +kernel, rfl, by decide +kernel, by decide +kernel⟩
section
variable {P : Program} {w : World} {K : PySem.W.Frag} {mg : Str → Option Value} {base : Heap}
def spLen : Sp := fun vs H Q _ => ∃ (v : V) (pl : List Nm) (ts : List Tie) (u x : Nm), vs = [v, .str (S u), .str (S x)] ∧ Dt H v (treeD pl ts) ∧ Fine pl ts ∧ u ∈ pl ∧ x ∈ pl ∧ ∀ H' : Hp, Same H H' → Q (.int (dist ts u x)) H'
theorem ok_length_between {f : Addr} {fd : FuncData} (F : Fun K "length_between" "length_between" s_length_between f fd) (Ccheck_places : Cal P w K mg base 1 "check_places" spCheck) (Cwalk_from : Cal P w K mg base 2 "walk_from" spWalk) : FnOk P w K mg base CX0 3 f fd ["tree", "one", "other"] spLen := by
  refine F.ok sc_length_between (fun vs H Q E h => ?_) (fun cdv A outer s H vs Q E hr h => ?_)
  · obtain ⟨v, pl, ts, u, x, rfl, _⟩ := h
    rfl
  · obtain ⟨v, pl, ts, u, x, rfl, hd, fine, hu, hx, q⟩ := h
    refine ⟨_, (pss_cons (ps_expr (pe_c Ccheck_places hr (by decide) rfl (pa_cons (pv 0) (pa_cons (pe_tup (pa_cons (pv 1) (pa_cons (pv 2) pa_nil))) pa_nil))))
      (pss_cons (ps_asg (pe_c Cwalk_from hr (by decide) rfl (pa_cons (pv 0) (pa_cons (pv 1) pa_nil))) (pg_tup rfl (pgs_cons (pg_name (i := 3) sc_length_between.nd rfl (.inl rfl)) (pgs_cons (pg_name (i := 4) sc_length_between.nd rfl (.inl rfl)) pgs_nil))))
      (pss_one (ps_ret (pe_dget (hu_of hr) (pv 4) (pv 2) (fun _ _ => rfl)))))), ?_⟩
    refine ⟨_, rfl, _, rfl, _, rfl, (by show 2 ≤ sizeLine; decide), fun p np => ?_⟩
    have s1 := same_new (o := .tup [.str (S u), .str (S x)]) (Same.refl H) np
    refine ⟨v, p, pl, [u, x], ts, rfl, Dt.keep (TK.of s1) hd, upd_same, fun y hy => ?_, ?_⟩
    · rcases List.mem_cons.mp hy with z | z
      · exact z ▸ hu
      · exact (List.mem_singleton.mp z) ▸ hx
    refine ⟨_, rfl, _, rfl, v, pl, ts, u, rfl, Dt.keep (TK.of s1) hd, fine, hu, fun H1 g bk ln fs prev S1 W => ?_⟩
    refine ⟨g, _, rfl, SqT.of W.pair, rfl, _, _, rfl, _, _, rfl, rfl, ?_⟩
    exact ⟨_, rfl, _, rfl, ln, _, rfl, lens_body W hx rfl, q H1 (s1.trans S1)⟩
end
end Far

namespace Far
open PySem PySem.Spec PyProof.Rows L2
open C8 (pss_cut tCut)
open SX (S)
theorem hd65 {A : Around} {k : Nat} (hr : Room k A) (h : 2 ≤ k) : A.units + 65 < cLine := by
  have := hr.un
  omega
/-! ### a class of one's own: its methods, which may raise, its making -/
def pd (z : Nm × Nm) : PyData := .tuple [strD z.1, strD z.2]
theorem pd_eqv {x y : Nm × Nm} : PyData.eqv (pd x) (pd y) = true ↔ x = y := by
  obtain ⟨a, b⟩ := x
  obtain ⟨c, d⟩ := y
  show (S a == S c && (S b == S d && true)) = true ↔ _
  rw [Bool.and_true, Bool.and_eq_true, beq_iff_eq, beq_iff_eq]
  constructor
  · rintro ⟨h1, h2⟩
    rw [SX.S_inj h1, SX.S_inj h2]
  · intro h
    cases h
    exact ⟨rfl, rfl⟩
theorem pd_lay : ∀ {zs : List (Nm × Nm)}, (∀ z ∈ zs, NameOk z.1 ∧ NameOk z.2) → PyData.canLayAll0 (zs.map pd) = true ∧ PyData.depthAll (zs.map pd) ≤ 1
  | [], _ => ⟨rfl, Nat.zero_le _⟩
  | z :: r, h => by
    obtain ⟨h1, h2⟩ := h z (List.mem_cons_self ..)
    obtain ⟨i1, i2⟩ := pd_lay (zs := r) fun y hy => h y (List.mem_cons_of_mem _ hy)
    constructor
    · show ((PyData.strOk (S z.1) && (PyData.strOk (S z.2) && true)) && PyData.canLayAll0 (r.map pd)) = true
      rw [strOk_S h1, strOk_S h2, i1]
      rfl
    · show max (max 0 (max 0 0) + 1) (PyData.depthAll (r.map pd)) ≤ 1
      omega
theorem pd_shaped {zs : List (Nm × Nm)} (h : ∀ z ∈ zs, NameOk z.1 ∧ NameOk z.2) : SeqAt.shaped (.list (zs.map pd)) = true := by
  obtain ⟨i1, i2⟩ := pd_lay h
  show (PyData.canLayAll0 (zs.map pd) && decide (PyData.depthAll (zs.map pd) + 1 ≤ 64)) = true
  rw [i1, decide_eq_true (by omega)]
  rfl
theorem any_pd {zs : List (Nm × Nm)} {z : Nm × Nm} : ((zs.map pd).any fun y => PyData.eqv y (pd z)) = decide (z ∈ zs) := by
  by_cases h : z ∈ zs
  · rw [decide_eq_true h]
    exact List.any_eq_true.mpr ⟨pd z, List.mem_map_of_mem h, pd_eqv.mpr rfl⟩
  · rw [decide_eq_false h]
    refine Bool.eq_false_iff.mpr fun q => ?_
    obtain ⟨y, hy, e⟩ := List.any_eq_true.mp q
    obtain ⟨x, hx, rfl⟩ := List.mem_map.mp hy
    exact h (pd_eqv.mp e ▸ hx)
/-- x in t, t a tuple of data of any depth -/
def rInT (K : PySem.W.Frag) : R2 := fun x y H Q => ∃ d ds, Dp K H x d ∧ Dp K H y (.tuple ds) ∧ SeqAt.shaped d = true ∧ SeqAt.shaped (.tuple ds) = true ∧ Q (.bl (ds.any fun z => PyData.eqv z d)) H
theorem op_inT {X : Cx} (hu : X.A.units + 65 < cLine) : OpR X (compareOp .In) (rInT X.K) := by
  intro pins s σ H x y v u Q I rx ry h
  obtain ⟨d, ds, hd, he, sd, se, q⟩ := h
  obtain ⟨as, r1⟩ := Dp.reads I d x v hd rx
  obtain ⟨bs, r2⟩ := Dp.reads I (.tuple ds) y u he ry
  exact SeqAt.in_tuple_reads r2 r1 (SeqAt.canLay_of_shaped se) (SeqAt.canLay_of_shaped sd) (room_in_shaped sd hu) ⟨.bl _, H, I, rfl, q⟩
theorem pd_shapedT {zs : List (Nm × Nm)} (h : ∀ z ∈ zs, NameOk z.1 ∧ NameOk z.2) : SeqAt.shaped (.tuple (zs.map pd)) = true := by
  obtain ⟨i1, i2⟩ := pd_lay h
  show (PyData.canLayAll0 (zs.map pd) && decide (PyData.depthAll (zs.map pd) + 1 ≤ 64)) = true
  rw [i1, decide_eq_true (by omega)]
  rfl
theorem pd_one {z : Nm × Nm} (h : NameOk z.1 ∧ NameOk z.2) : SeqAt.shaped (pd z) = true := by
  show (((PyData.strOk (S z.1) && (PyData.strOk (S z.2) && true))) && decide (max 0 (max 0 0) + 1 ≤ 64)) = true
  rw [strOk_S h.1, strOk_S h.2]
  rfl

theorem iteF' {A B : Prop} {b : Bool} (e : b = false) (h : B) : if b = true then A else B := by
  rw [e]
  exact iteF h
theorem iteT' {A B : Prop} {b : Bool} (e : b = true) (h : A) : if b = true then A else B := by
  rw [e]
  exact iteT h
theorem tie_at {H : Hp} {i : Nat} {vs : List V} {ts : List Tie} {v : V} (h : DtAll H vs (ts.map tieD)) (hi : vs[i]? = some v) : ∃ (t : Tie) (p : Addr), ts[i]? = some t ∧ v = .ref p ∧ H p = some (.tup [.str (S t.1), .str (S t.2.1), .int t.2.2]) := by
  obtain ⟨d, hd, hv⟩ := DtAll.get h hi
  rw [List.getElem?_map] at hd
  cases e : ts[i]? with
  | none =>
    rw [e] at hd
    cases hd
  | some t =>
    rw [e] at hd
    have ed : d = tieD t := (Option.some.inj hd).symm
    subst ed
    obtain ⟨p, rfl, hp⟩ := dt_tie hv
    exact ⟨t, p, rfl, rfl, hp⟩
theorem idx_at {pl : List Nm} (nd : pl.Nodup) {y : Nm} (hy : y ∈ pl) : (pl.map S)[pl.idxOf y]? = some (S y) ∧ ∀ i, i < pl.idxOf y → (pl.map S)[i]? ≠ some (S y) := by
  have h1 : pl.idxOf y < pl.length := List.idxOf_lt_length_of_mem hy
  have h2 : pl[pl.idxOf y] = y := List.getElem_idxOf h1
  refine ⟨by rw [List.getElem?_map, List.getElem?_eq_getElem h1, h2]; rfl, fun i hi h => ?_⟩
  rw [List.getElem?_map, List.getElem?_eq_getElem (by omega)] at h
  have h3 : pl[i] = y := SX.S_inj (Option.some.inj h)
  have := (List.getElem_inj nd).mp (h3.trans h2.symm)
  omega
structure TxtH (mg : Str → Option Value) : Prop where
  len : mg "len" = none
  gcd : mg "gcd" = some (.builtin "math.gcd")
  zip : mg "zip" = none
  min : mg "min" = none
  max : mg "max" = none
/-- a point: its one, its other, the above and the below of its part -/
abbrev Pt := Nm × Nm × Int × Int
def ptD (p : Pt) : PyData := .tuple [strD p.1, strD p.2.1, .tuple [.int p.2.2.1, .int p.2.2.2]]
def joins (a b : Nm) (t : Tie) : Bool := decide ((t.1, t.2.1) ∈ [(a, b), (b, a)])
def isPt (pl : List Nm) (ts : List Tie) (p : Pt) : Bool :=
  if p.1 = p.2.1 then decide (p.1 ∈ pl) && decide (p.2.2 = (0, 1))
  else if p.2.2.2 < 1 then false
  else if ((Nat.gcd p.2.2.1.natAbs p.2.2.2.natAbs : Nat) : Int) ≠ 1 then false
  else match ts.find? (joins p.1 p.2.1) with
    | none => false
    | some t => decide (0 < p.2.2.1) && decide (p.2.2.1 < t.2.2 * p.2.2.2) && decide (pl.idxOf p.1 < pl.idxOf p.2.1)
theorem dt_pt {H : Hp} {v : V} {p : Pt} (h : Dt H v (ptD p)) : ∃ g r : Addr, v = .ref g ∧ H g = some (.tup [.str (S p.1), .str (S p.2.1), .ref r]) ∧ H r = some (.tup [.int p.2.2.1, .int p.2.2.2]) := by
  obtain ⟨t, xs, rfl, ht, hs⟩ := dt_tup h fun _ => ⟨.tuple [.int p.2.2.1, .int p.2.2.2], by simp, fun l z => nomatch z⟩
  cases hs with
  | cons h1 hr =>
    cases hr with
    | cons h2 hr =>
      cases hr with
      | cons h3 hr =>
        cases hr
        cases h1
        cases h2
        obtain ⟨r, ys, rfl, hr2, hs2⟩ := dt_tup h3 fun _ => ⟨.int p.2.2.1, by simp, fun l z => nomatch z⟩
        cases hs2 with
        | cons h1 hr =>
          cases hr with
          | cons h2 hr =>
            cases hr
            cases h1
            cases h2
            exact ⟨t, r, rfl, ht, hr2⟩
abbrev s_is_point : Stmt := topS 12
abbrev N_is_point : List Str := ["tree", "point", "places", "ties", "one", "other", "part", "above", "below", "first", "second", "length"]
theorem sc_is_point : FnScope N_is_point ["tree", "point"] (defScope s_is_point) := ⟨rfl, rfl, rfl, by decide +kernel, rfl, by decide +kernel, by decide +kernel⟩
section
variable {P : Program} {w : World} {K : PySem.W.Frag} {mg : Str → Option Value} {base : Heap}
def spIsPt : Sp := fun vs H Q _ => ∃ (v u : V) (pl : List Nm) (ts : List Tie) (p : Pt), vs = [v, u] ∧ Dt H v (treeD pl ts) ∧ PlZ H v pl ∧ Fine pl ts ∧ Dt H u (ptD p) ∧ NameOk p.1 ∧ NameOk p.2.1 ∧ ∀ H' : Hp, Same H H' → Q (.bl (isPt pl ts p)) H'
theorem ok_is_point {f : Addr} {fd : FuncData} (F : Fun K "_is_point" "_is_point" s_is_point f fd) (T : TxtH mg) : FnOk P w K mg base CX0 3 f fd ["tree", "point"] spIsPt := by
  refine F.ok sc_is_point (fun vs H Q E h => ?_) (fun cdv A outer s H vs Q E hr h => ?_)
  · obtain ⟨v, u, pl, ts, p, rfl, _⟩ := h
    rfl
  · obtain ⟨v, u, pl, ts, ⟨one, other, above, below⟩, rfl, hd, hz, fine, hu, n1, n2, q⟩ := h
    obtain ⟨t, a, b, vs, rfl, ht, ha, hb', hA⟩ := dt_tree hd
    obtain ⟨g, r, rfl, hg, hr2⟩ := dt_pt hu
    dsimp only at n1 n2 hg hr2
    obtain ⟨t0, a0, b0, o, e0, ht0, od, haz⟩ := hz
    cases e0
    cases Option.some.inj (ht0.symm.trans ht)
    have fin : ∀ (b : Bool) (H' : Hp), isPt pl ts (one, other, above, below) = b → Same H H' → Q (.bl b) H' := fun b H' e S => by
      rw [← e]
      exact q H' S
    refine ⟨_, (pss_cons (ps_asg (pv 0) (pg_tup rfl (pgs_cons (pg_name (i := 2) sc_is_point.nd rfl (.inl rfl)) (pgs_cons (pg_name (i := 3) sc_is_point.nd rfl (.inl rfl)) pgs_nil))))
      (pss_cons (ps_asg (pv 1) (pg_tup rfl (pgs_cons (pg_name (i := 4) sc_is_point.nd rfl (.inl rfl)) (pgs_cons (pg_name (i := 5) sc_is_point.nd rfl (.inl rfl)) (pgs_cons (pg_name (i := 6) sc_is_point.nd rfl (.inl rfl)) pgs_nil)))))
      (pss_cut (ps_if (pt_cmpR op_eq (pv 4) (pv 5) (nomark _))
        (pss_one (ps_ret (pe_and (pe_cmpR op_in_seq (pv 4) (pv 2) rfl) (pe_one (pe_cmpR (op_eqD (hd_of hr (by decide))) (pv 6) (pe_tup (pa_cons pe_int (pa_cons pe_int pa_nil))) (nomark _))))))
        pss_nil)
      (pss_cons (ps_asg (pv 6) (pg_tup rfl (pgs_cons (pg_name (i := 7) sc_is_point.nd rfl (.inl rfl)) (pgs_cons (pg_name (i := 8) sc_is_point.nd rfl (.inl rfl)) pgs_nil))))
      (pss_cut (ps_if (PW.pt (pw_or (pt_cmpR op_lt (pv 8) pe_int (nomark _)) (pw_or1 (pt_cmpR op_ne (pe_callBfun cr_gcd (by rfl) T.gcd (pa_cons (pv 7) (pa_cons (pv 8) pa_nil))) pe_int (nomark _)))))
        (pss_one (ps_ret pe_bl))
        pss_nil)
      (pss_cut (ps_for PassesOwn.never rfl (pi_tup (pv 3)) (pg_tup rfl (pgs_cons (pg_name (i := 9) sc_is_point.nd rfl (.inl rfl)) (pgs_cons (pg_name (i := 10) sc_is_point.nd rfl (.inl rfl)) (pgs_cons (pg_name (i := 11) sc_is_point.nd rfl (.inl rfl)) pgs_nil))))
        (pss_one (ps_if (pt_cmpR (op_inT (hd65 hr (by decide))) (pe_tup (pa_cons (pv 9) (pa_cons (pv 10) pa_nil))) (pe_tup (pa_cons (pe_tup (pa_cons (pv 4) (pa_cons (pv 5) pa_nil))) (pa_cons (pe_tup (pa_cons (pv 5) (pa_cons (pv 4) pa_nil))) pa_nil))) rfl)
          (pss_one (ps_ret (pe_and (pe_chain op_lt op_lt pe_int (pv 7) (pe_op op_mul (pv 11) (pv 8))) (pe_one (pe_cmpR op_lt (pe_ixZ (pv 2) (pv 4)) (pe_ixZ (pv 2) (pv 5)) (nomark _))))))
          pss_nil)))
      (pss_one (ps_ret pe_bl)))))))), ?_⟩
    refine ⟨_, rfl, t, _, rfl, SqT.of ht, rfl, _, _, rfl, _, _, rfl, rfl, ?_⟩
    refine ⟨_, rfl, g, _, rfl, SqT.of hg, rfl, _, _, rfl, _, _, rfl, _, _, rfl, rfl, ?_⟩
    refine ⟨fun σ' H' => one ≠ other ∧ σ' = [some (.ref t), some (.ref g), some (.ref a), some (.ref b), some (.str (S one)), some (.str (S other)), some (.ref r), none, none, none, none, none] ∧ H' = H, ?_, fun σ' H' hM => ?_⟩
    · refine ⟨_, rfl, _, rfl, rfl, _, rfl, ?_⟩
      by_cases c : one = other
      · subst c
        refine iteT' (decide_eq_true rfl) ?_
        refine ⟨_, rfl, _, rfl, a, _, rfl, .inr ha.sq, rfl, flat_strs pl, _, rfl, ?_⟩
        rw [inV_strs]
        by_cases c1 : one ∈ pl
        · rw [decide_eq_true c1]
          refine iteT ?_
          refine ⟨_, rfl, (by show 2 ≤ sizeLine; decide), fun e ne => ?_⟩
          have tke := TK.new (o := .tup [.int 0, .int 1]) ne
          refine ⟨.tuple [.int above, .int below], .tuple [.int 0, .int 1], Dt.dp (.tup (tke.tup _ _ hr2) (.cons (.int _) (.cons (.int _) .nil))), Dt.dp (.tup upd_same (.cons (.int _) (.cons (.int _) .nil))), rfl, rfl, ?_⟩
          refine fin _ _ ?_ (same_new (Same.refl H) ne)
          unfold isPt
          rw [if_pos rfl, decide_eq_true c1, Bool.true_and]
          show _ = ((above == 0) && ((below == 1) && true))
          rw [Bool.and_true, Bool.eq_iff_iff, decide_eq_true_eq, Bool.and_eq_true, beq_iff_eq, beq_iff_eq]
          exact Prod.mk.injEq .. ▸ Iff.rfl
        · rw [decide_eq_false c1]
          refine iteF (fin _ _ ?_ (Same.refl H))
          unfold isPt
          rw [if_pos rfl, decide_eq_false c1]
          rfl
      · exact iteF' (decide_eq_false fun z => c (SX.S_inj (V.str.inj z))) ⟨c, rfl, rfl⟩
    · obtain ⟨c, rfl, rfl⟩ := hM
      refine ⟨_, rfl, r, _, rfl, SqT.of hr2, rfl, _, _, rfl, _, _, rfl, rfl, ?_⟩
      refine ⟨fun σ' H'' => ¬ below < 1 ∧ ((Nat.gcd above.natAbs below.natAbs : Nat) : Int) = 1 ∧ σ' = [some (.ref t), some (.ref g), some (.ref a), some (.ref b), some (.str (S one)), some (.str (S other)), some (.ref r), some (.int above), some (.int below), none, none, none] ∧ H'' = H', ?_, fun σ' H'' hM => ?_⟩
      · refine ⟨_, rfl, _, _, rfl, rfl, _, rfl, ?_⟩
        by_cases c1 : below < 1
        · refine iteT' (decide_eq_true c1) ?_
          refine iteT (fin _ _ ?_ (Same.refl _))
          unfold isPt
          rw [if_neg c, if_pos c1]
        · refine iteF' (decide_eq_false c1) ?_
          refine ⟨_, rfl, _, rfl, above, below, rfl, ?_⟩
          refine ⟨rfl, _, rfl, ?_⟩
          by_cases c2 : ((Nat.gcd above.natAbs below.natAbs : Nat) : Int) = 1
          · refine iteF' ?_ ⟨c1, c2, rfl, rfl⟩
            rw [c2]
            rfl
          · refine iteT' ?_ (fin _ _ ?_ (Same.refl _))
            · rw [decide_eq_false fun z => c2 (V.int.inj z)]
              rfl
            · unfold isPt
              rw [if_neg c, if_neg c1, if_pos c2]
      · obtain ⟨c1, c2, rfl, rfl⟩ := hM
        have eP : isPt pl ts (one, other, above, below) = match ts.find? (joins one other) with
            | none => false
            | some t => decide (0 < above) && decide (above < t.2.2 * below) && decide (pl.idxOf one < pl.idxOf other) := by
          unfold isPt
          rw [if_neg c, if_neg c1, if_neg (fun z => z c2)]
        refine ⟨fun σ' H4 => ts.find? (joins one other) = none ∧ Same H'' H4, ?_, fun σ' H4 hM => ?_⟩
        rotate_left
        · refine fin _ _ ?_ hM.2
          rw [eP, hM.1]
        · refine ⟨_, rfl, b, rfl, ⟨_, SqT.of hb'⟩, for_tup (K := K) (a := b) (xs := vs) (fun i σ' H4 => (∃ x9 x10 x11, σ' = [some (.ref t), some (.ref g), some (.ref a), some (.ref b), some (.str (S one)), some (.str (S other)), some (.ref r), some (.int above), some (.int below), x9, x10, x11]) ∧ Same H'' H4 ∧ (ts.take i).find? (joins one other) = none) ⟨⟨_, _, _, rfl⟩, Same.refl _, rfl⟩ (fun i σ' H4 _ hP => SqT.of (hP.2.1 _ _ hb')) (fun i x σ' H4 hi hP => ?_) (fun σ' H4 hP => ?_)⟩
          · obtain ⟨⟨x9, x10, x11, rfl⟩, S4, hn⟩ := hP
            obtain ⟨t3, p3, ht3, rfl, hp3⟩ := tie_at (DtAll.keep (TK.of S4) hA) hi
            have et : ts.take (i + 1) = ts.take i ++ [t3] := by rw [List.take_add_one, ht3]; rfl
            have mt : t3 ∈ ts := List.mem_of_getElem? ht3
            have ti := fine.tree.ties t3 mt
            refine ⟨p3, _, rfl, SqT.of hp3, rfl, _, _, rfl, _, _, rfl, _, _, rfl, rfl, ?_⟩
            refine ⟨_, rfl, _, rfl, (by show 2 ≤ sizeLine; decide), fun e1 ne1 => ?_⟩
            refine ⟨_, rfl, _, rfl, (by show 2 ≤ sizeLine; decide), fun e2 ne2 => ?_⟩
            refine ⟨_, rfl, _, rfl, (by show 2 ≤ sizeLine; decide), fun e3 ne3 => ⟨(by show 2 ≤ sizeLine; decide), fun e4 ne4 => ?_⟩⟩
            have S8 := same_new (o := .tup [.ref e2, .ref e3]) (same_new (o := .tup [.str (S other), .str (S one)]) (same_new (o := .tup [.str (S one), .str (S other)]) (same_new (o := .tup [.str (S t3.1), .str (S t3.2.1)]) S4 ne1) ne2) ne3) ne4
            have t4 := TK.new (o := .tup [.ref e2, .ref e3]) ne4
            have t3' := (TK.new (o := .tup [.str (S other), .str (S one)]) ne3).trans t4
            have t2 := (TK.new (o := .tup [.str (S one), .str (S other)]) ne2).trans t3'
            refine ⟨pd (t3.1, t3.2.1), [(one, other), (other, one)].map pd, Dt.dp (.tup (t2.tup _ _ upd_same) (.cons (.str _) (.cons (.str _) .nil))), Dt.dp (.tup upd_same (.cons (.tup (t3'.tup _ _ upd_same) (.cons (.str _) (.cons (.str _) .nil))) (.cons (.tup (t4.tup _ _ upd_same) (.cons (.str _) (.cons (.str _) .nil))) .nil))), pd_one ⟨fine.ok _ ti.1, fine.ok _ ti.2.1⟩, pd_shapedT (fun z hz => ?_), ?_⟩
            · simp only [List.mem_cons, List.not_mem_nil, or_false] at hz
              rcases hz with e | e <;> subst e
              · exact ⟨n1, n2⟩
              · exact ⟨n2, n1⟩
            rw [any_pd]
            generalize upd (upd (upd (upd H4 e1 (.tup [.str (S t3.1), .str (S t3.2.1)])) e2 (.tup [.str (S one), .str (S other)])) e3 (.tup [.str (S other), .str (S one)])) e4 (.tup [.ref e2, .ref e3]) = H8 at S8
            refine ⟨_, rfl, ?_⟩
            by_cases c3 : joins one other t3 = true
            · refine iteT' c3 ?_
              have hf : ts.find? (joins one other) = some t3 := by
                have e1 := List.take_append_drop (i + 1) ts
                rw [← e1, List.find?_append, et, List.find?_append, hn]
                simp [c3]
              have mo : one ∈ pl ∧ other ∈ pl := by
                unfold joins at c3
                have c4 := of_decide_eq_true c3
                simp only [List.mem_cons, List.not_mem_nil, or_false] at c4
                rcases c4 with e | e
                · have e1 : t3.1 = one := congrArg Prod.fst e
                  have e2 : t3.2.1 = other := congrArg Prod.snd e
                  exact ⟨e1 ▸ ti.1, e2 ▸ ti.2.1⟩
                · have e1 : t3.1 = other := congrArg Prod.fst e
                  have e2 : t3.2.1 = one := congrArg Prod.snd e
                  exact ⟨e2 ▸ ti.2.1, e1 ▸ ti.1⟩
              have e3 : isPt pl ts (one, other, above, below) = (decide (0 < above) && decide (above < t3.2.2 * below) && decide (pl.idxOf one < pl.idxOf other)) := by rw [eP, hf]
              refine ⟨_, rfl, _, _, rfl, rfl, _, rfl, ?_⟩
              by_cases d1 : 0 < above
              · refine iteT' (decide_eq_true d1) ?_
                refine ⟨_, rfl, _, rfl, _, _, rfl, rfl, ?_, _, _, rfl, rfl, _, rfl, ?_⟩
                · have h1 := ti.2.2.1
                  have h2 := ti.2.2.2
                  exact .inl ⟨by omega, by omega⟩
                by_cases d2 : above < t3.2.2 * below
                · refine iteT' (decide_eq_true d2) ?_
                  obtain ⟨i1, i2⟩ := idx_at fine.tree.nodup mo.1
                  obtain ⟨j1, j2⟩ := idx_at fine.tree.nodup mo.2
                  have ha8 := S8 _ _ haz
                  refine ⟨_, rfl, a, _, o, rfl, od, ha8, _, rfl, rfl, _, _, rfl, i1, i2, ?_⟩
                  refine ⟨_, rfl, a, _, o, rfl, od, ha8, _, rfl, rfl, _, _, rfl, j1, j2, _, _, rfl, rfl, ?_⟩
                  refine fin _ _ ?_ S8
                  rw [e3, decide_eq_true d1, decide_eq_true d2, Bool.true_and, Bool.true_and]
                  exact decide_eq_decide.mpr (by omega)
                · refine iteF' (decide_eq_false d2) (fin _ _ ?_ S8)
                  rw [e3, decide_eq_false d2, Bool.and_false, Bool.false_and]
              · refine iteF' (decide_eq_false d1) ?_
                refine ⟨_, rfl, ?_⟩
                refine iteF (fin _ _ ?_ S8)
                rw [e3, decide_eq_false d1, Bool.false_and, Bool.false_and]
            · refine iteF' (Bool.eq_false_iff.mpr c3) ⟨⟨_, _, _, rfl⟩, S8, ?_⟩
              rw [et, List.find?_append, hn]
              simp [c3]
          · obtain ⟨_, S4, hn⟩ := hP
            have vl : vs.length = ts.length := by
              have := DtAll.len hA
              rwa [List.length_map] at this
            rw [vl, List.take_length] at hn
            exact ⟨hn, S4⟩
end
end Far

namespace Far
open PySem PySem.Spec PyProof.Rows PyProof.V L2
/-! ### max, min, sum of a tuple of whole numbers -/
section
variable {prog : Program} {w : World} {A : Around} {E : Value → Shared → Prop} {s : Shared} {t : Addr} {xs : Array (Int × Tok)}
theorem iter_intTup {Q : Value → Shared → Prop} (hl : s.heap.IsTuple t (intItems xs))
    (h : ∀ s₂ : Shared, s₂ = { s with heap := s.heap.push { cls := .type "tuple_iterator", data := .fields #[.ref t, .int 0 0] } } →
      (s₂.heap.IsTupleIter s.heap.objs.size t 0 ∧ s₂.heap.IsTuple t (intItems xs)) → (∀ b ∈ [s.heap.objs.size, t], b < s₂.heap.objs.size) → t ≠ s.heap.objs.size → Q (.ref s.heap.objs.size) s₂) : wpAny (model prog w) A (pyIter (.ref t)) Q E s := by
  have hlt : t < s.heap.objs.size := by obtain ⟨_, e, _⟩ := hl; exact Heap.lt_size e
  refine wpAny_pyIter_tuple hl (h _ rfl ⟨⟨_, Heap.get?_push_size _ rfl, rfl, rfl⟩, hl.at fun o e => Heap.get?_push_of_some _ e⟩ (fun b hb => ?_) (Nat.ne_of_lt hlt))
  show b < (s.heap.push _).objs.size
  rw [Heap.size_push]
  rcases List.mem_cons.mp hb with rfl | hb
  · exact Nat.lt_succ_self _
  · rcases List.mem_cons.mp hb with rfl | hb
    · exact Nat.lt_succ_of_lt hlt
    · cases hb
theorem old_keptT {s : Shared} {o : Obj} {h' : Heap} (k : ∀ b o', b ∉ [s.heap.objs.size] → (s.heap.push o).get? b = some o' → h'.get? b = some o') : ∀ b o', s.heap.get? b = some o' → h'.get? b = some o' :=
  fun b o' e => k b o' (fun hb => absurd (Heap.lt_size e) ((List.mem_singleton.mp hb) ▸ Nat.lt_irrefl _)) (Heap.get?_push_of_some _ e)
theorem max_intTup {Q : Value → Shared → Prop} (hh : A.handled = none) (hl : s.heap.IsTuple t (intItems xs)) (hne : 0 < xs.size)
    (h : ∀ v h' tk, (intItems xs)[argBest (fun i j => decide (numAt xs i > numAt xs j)) (xs.size - 1)]? = some v → (∀ b o, s.heap.get? b = some o → h'.get? b = some o) → Q v { s with heap := h', toks := tk }) :
    wpAny (model prog w) A (call (.builtin "max") [.ref t]) Q E s := by
  refine call_max_walk (iter_intTup hl fun s₂ e st hfp hlI => ?_)
  subst e
  refine ⟨_, _, _, _, _, _, _, rfl, Walks.tuple (A := A.in1) hh _ t hlI (intItems xs), st, hfp, by simpa [intItems] using hne, CmpOf.ints_gt (numAt xs) (fun _ _ => intItems_at), fun v h' tk hP hk => ?_⟩
  exact h v h' tk (by simpa [intItems] using hP) (old_keptT hk)
theorem min_intTup {Q : Value → Shared → Prop} (hh : A.handled = none) (hl : s.heap.IsTuple t (intItems xs)) (hne : 0 < xs.size)
    (h : ∀ v h' tk, (intItems xs)[argBest (fun i j => decide (numAt xs i < numAt xs j)) (xs.size - 1)]? = some v → (∀ b o, s.heap.get? b = some o → h'.get? b = some o) → Q v { s with heap := h', toks := tk }) :
    wpAny (model prog w) A (call (.builtin "min") [.ref t]) Q E s := by
  refine call_min_walk (iter_intTup hl fun s₂ e st hfp hlI => ?_)
  subst e
  refine ⟨_, _, _, _, _, _, _, rfl, Walks.tuple (A := A.in1) hh _ t hlI (intItems xs), st, hfp, by simpa [intItems] using hne, CmpOf.ints_lt (numAt xs) (fun _ _ => intItems_at), fun v h' tk hP hk => ?_⟩
  exact h v h' tk (by simpa [intItems] using hP) (old_keptT hk)
variable {its : List Value} {ns : List Int}
theorem maxT_raw {Q : Value → Shared → Prop} (hh : A.handled = none) (hl : s.heap.IsTuple t its.toArray) (hi : IntsAre its ns) (hne : 0 < ns.length)
    (h : ∀ h' tk M t', (∀ b o, s.heap.get? b = some o → h'.get? b = some o) → M ∈ ns → (∀ a, a ∈ ns → a ≤ M) → Q (.int M t') { s with heap := h', toks := tk }) : wpAny (model prog w) A (call (.builtin "max") [.ref t]) Q E s := by
  obtain ⟨xs, e⟩ := hi.allInts.items
  have hn : numsOf (intItems xs).toList = ns := by rw [← e]; exact hi.numsOf
  rw [nums_intItems] at hn
  subst hn
  rw [e] at hl
  have hsz : 0 < xs.size := by simpa using hne
  refine max_intTup hh hl hsz fun v h' tk hv hk => ?_
  obtain ⟨t, rfl⟩ := intItems_at hv
  obtain ⟨h1, h2⟩ := argBest_gt (numAt xs) (xs.size - 1)
  refine h h' tk _ t hk ?_ fun a ha => ?_
  · rw [numAt_eq]; exact PySem.getD_mem (by rw [List.length_map, Array.length_toList]; omega)
  · obtain ⟨j, hj, rfl⟩ := mem_getD ha
    rw [List.length_map, Array.length_toList] at hj
    rw [← numAt_eq]; exact h2 j (by omega)
theorem minT_raw {Q : Value → Shared → Prop} (hh : A.handled = none) (hl : s.heap.IsTuple t its.toArray) (hi : IntsAre its ns) (hne : 0 < ns.length)
    (h : ∀ h' tk M t', (∀ b o, s.heap.get? b = some o → h'.get? b = some o) → M ∈ ns → (∀ a, a ∈ ns → M ≤ a) → Q (.int M t') { s with heap := h', toks := tk }) : wpAny (model prog w) A (call (.builtin "min") [.ref t]) Q E s := by
  obtain ⟨xs, e⟩ := hi.allInts.items
  have hn : numsOf (intItems xs).toList = ns := by rw [← e]; exact hi.numsOf
  rw [nums_intItems] at hn
  subst hn
  rw [e] at hl
  have hsz : 0 < xs.size := by simpa using hne
  refine min_intTup hh hl hsz fun v h' tk hv hk => ?_
  obtain ⟨t, rfl⟩ := intItems_at hv
  obtain ⟨h1, h2⟩ := argBest_lt (numAt xs) (xs.size - 1)
  refine h h' tk _ t hk ?_ fun a ha => ?_
  · rw [numAt_eq]; exact PySem.getD_mem (by rw [List.length_map, Array.length_toList]; omega)
  · obtain ⟨j, hj, rfl⟩ := mem_getD ha
    rw [List.length_map, Array.length_toList] at hj
    rw [← numAt_eq]; exact h2 j (by omega)
theorem sumT_raw {Q : Value → Shared → Prop} (hh : A.handled = none) (hl : s.heap.IsTuple t its.toArray) (hi : IntsAre its ns)
    (h : ∀ h' tk t', (∀ b o, s.heap.get? b = some o → h'.get? b = some o) → Q (.int ns.sum t') { s with heap := h', toks := tk }) : wpAny (model prog w) A (call (.builtin "sum") [.ref t]) Q E s := by
  obtain ⟨xs, e⟩ := hi.allInts.items
  have hn : numsOf (intItems xs).toList = ns := by rw [← e]; exact hi.numsOf
  rw [nums_intItems] at hn
  rw [e] at hl
  refine PySem.W.ktm_sumG hh hl fun h' tk t' hk => ?_
  have := h h' tk t' hk
  rw [preSum_eq, List.take_of_length_le (by simp), hn]; exact this
end
section
variable {X : Cx}
def rMaxT (K : PySem.W.Frag) : List V → Hp → VK → Prop := fun vs H Q => ∃ (a : Addr) (ns : List Int), vs = [V.ref a] ∧ SqT K H a (ns.map V.int) ∧ 0 < ns.length ∧ ∀ m, m ∈ ns → (∀ y, y ∈ ns → y ≤ m) → Q (.int m) H
def rMinT (K : PySem.W.Frag) : List V → Hp → VK → Prop := fun vs H Q => ∃ (a : Addr) (ns : List Int), vs = [V.ref a] ∧ SqT K H a (ns.map V.int) ∧ 0 < ns.length ∧ ∀ m, m ∈ ns → (∀ y, y ∈ ns → m ≤ y) → Q (.int m) H
def rSumT (K : PySem.W.Frag) : List V → Hp → VK → Prop := fun vs H Q => ∃ (a : Addr) (ns : List Int), vs = [V.ref a] ∧ SqT K H a (ns.map V.int) ∧ Q (.int ns.sum) H
theorem cr_maxT {K : PySem.W.Frag} (hc : X.calm = true) (eK : X.K = K := by rfl) : CallR X (.builtin "max") (rMaxT K) := by
  subst eK
  intro pins s σ H vs us Q I r h
  obtain ⟨a, ns, rfl, hs, hne, q⟩ := h
  obtain ⟨its, rv, hl, _⟩ := I.tuple hs
  rw [Vals.ref1 r]
  exact maxT_raw (I.ok.hd hc) hl rv.ints hne fun h' tk m t' hk h1 h2 => ⟨.int _, H, I.kept hk, ⟨_, rfl⟩, q m h1 h2⟩
theorem cr_minT {K : PySem.W.Frag} (hc : X.calm = true) (eK : X.K = K := by rfl) : CallR X (.builtin "min") (rMinT K) := by
  subst eK
  intro pins s σ H vs us Q I r h
  obtain ⟨a, ns, rfl, hs, hne, q⟩ := h
  obtain ⟨its, rv, hl, _⟩ := I.tuple hs
  rw [Vals.ref1 r]
  exact minT_raw (I.ok.hd hc) hl rv.ints hne fun h' tk m t' hk h1 h2 => ⟨.int _, H, I.kept hk, ⟨_, rfl⟩, q m h1 h2⟩
theorem cr_sumT {K : PySem.W.Frag} (hc : X.calm = true) (eK : X.K = K := by rfl) : CallR X (.builtin "sum") (rSumT K) := by
  subst eK
  intro pins s σ H vs us Q I r h
  obtain ⟨a, ns, rfl, hs, q⟩ := h
  obtain ⟨its, rv, hl, _⟩ := I.tuple hs
  rw [Vals.ref1 r]
  exact sumT_raw (I.ok.hd hc) hl rv.ints fun h' tk t' hk => ⟨.int _, H, I.kept hk, ⟨_, rfl⟩, q⟩
theorem cr_maxL {K : PySem.W.Frag} (hc : X.calm = true) (eK : X.K = K := by rfl) : CallR X (.builtin "max") (rMax K) := by subst eK; exact cr_max hc
theorem cr_minL {K : PySem.W.Frag} (hc : X.calm = true) (eK : X.K = K := by rfl) : CallR X (.builtin "min") (rMin K) := by subst eK; exact cr_min hc
theorem cr_sumL {K : PySem.W.Frag} (hc : X.calm = true) (eK : X.K = K := by rfl) : CallR X (.builtin "sum") (rSum K) := by subst eK; exact cr_sum hc
end
end Far

namespace Far
open PySem PySem.Spec PyProof.Rows PyProof.V L2
theorem kv_vals17 : ∀ {kvs : List (Key × V)} {vs : List (Key × Value)}, KV kvs vs → Vals (kvs.map (·.2)) (vs.map (·.2))
  | [], [], .nil => .nil
  | _ :: _, _ :: _, .cons h t => .cons h.2 (kv_vals17 t)
/-- max(d.values()), the values whole numbers -/
def tMaxVals (te : TE) : TE := fun σ H Q => te σ H fun x H1 => ∃ (d : Addr) (kvs : List (Key × V)) (ns : List Int), x = .ref d ∧ H1 d = some (.dK kvs) ∧ kvs.map (·.2) = ns.map V.int ∧ 0 < ns.length ∧ ∀ m, m ∈ ns → (∀ y, y ∈ ns → y ≤ m) → Q (.int m) H1
theorem pe_maxVals {X : Cx} {e : Expr} {te : TE} {p pos apos cpos : Pos} (hc : X.calm = true) (he : PE X e te) (hg : Gl X "max") (hm : X.mg "max" = none) (hv : bootBuiltins "max" = some (.builtin "max"))
    (hbase : attributeBase e "values" X.env (eval e X.env) = eval e X.env := by rfl) (hline : (apos.endLine == cpos.line) = true := by rfl)
    (hs : starEach [.Call (.Attribute e "values" apos) [] [] cpos] X.env = (false, eval (.Call (.Attribute e "values" apos) [] [] cpos) X.env) :: starEach [] X.env := by rfl) :
    PE X (.Call (.Name "max" p) [.Call (.Attribute e "values" apos) [] [] cpos] [] pos) (tMaxVals te) := by
  refine ⟨fun pins s σ H Q I hq => ?_⟩
  refine wpAny_Call_Name_kw (ld_blt I hg hm hv ?_)
  refine PyProof.Rows.callWith_builtin1 ?_ hs rfl
  rw [hs]
  show wpAny _ _ (spliced ((false, eval (.Call (.Attribute e "values" apos) [] [] cpos) X.env) :: backTo pos (starEach [] X.env))) _ _ s
  refine Calls.spliced_cons ?_
  refine wpAny_Call_method (T := "dict") (id := "dict.values") hbase rfl hline F.plainAttrs_dict F.slot_dict_values F.type_dict_values (thn (he.run pins s σ H _ I hq) fun u s1 ⟨x, H1, I1, rx, d, kvs, ns, ex, hd, en, n0, q⟩ => ?_)
  subst ex
  obtain rfl : u = Value.ref d := rx
  obtain ⟨hz, hs0, vs, kv, hdo⟩ := I1.hok d _ hd
  obtain ⟨ep, hat⟩ := hdo.dictAt
  have lk : kvs.length = vs.length := Paired.length kv
  have I2 : Inv X pins σ H1 { s1 with heap := s1.heap.push { cls := .type "dict_values", data := .fields #[.ref d] } } := I1.kept (t' := s1.toks) fun b ob q => Heap.get?_push_of_some _ q
  refine ⟨hdo.typeIs, hdo.mapOf.noDict, ?_⟩
  show wpAny _ _ (callWith cpos (.builtin "dict.values") [.ref d] [] []) _ X.xe s1
  refine method_meetsIn F.slot_dict_values F.entry_dict_values rfl (PySem.evalArgs_none ⟨rfl, hdo.typeIs, F.args_dict_values_1 _, _, meets_dict_values (mixKind X.prog X.w) d hs0, ⟨vs, hdo⟩, ?_⟩)
  refine Calls.spliced_nil ?_
  have rv := kv_vals17 kv
  rw [en] at rv
  have hi := rv.ints
  obtain ⟨xs, exs⟩ := hi.allInts.items
  have hn : numsOf (intItems xs).toList = ns := by rw [← exs]; exact hi.numsOf
  rw [nums_intItems] at hn
  subst hn
  have hz2 : 0 < xs.size := by simpa using n0
  have vx : vs.length = xs.size := by
    have := congrArg Array.size exs
    simpa [intItems] using this
  have hdl : d < s1.heap.objs.size := hat.lt_size
  refine call_max_walk (wpAny_pyIter_values (v := s1.heap.objs.size) (d := d) (kvs := vs) (ep := ep) ⟨_, Heap.get?_push_size _ rfl, rfl, rfl⟩ (hat.push _) ?_)
  have hI2 := I2.ok.hd hc
  have hat2 := hat.push { cls := .type "dict_values", data := .fields #[.ref d] }
  have dI : d ≠ (s1.heap.push { cls := .type "dict_values", data := .fields #[.ref d] }).objs.size := by
    rw [Heap.size_push]
    exact Nat.ne_of_lt (Nat.lt_succ_of_lt hdl)
  refine ⟨_, _, _, _, _, _, fun i j => decide (numAt xs i > numAt xs j), rfl, Walks.dictValues (A := X.A.in1) (I1.ok.hd hc) _ d dI vs ep, ⟨⟨_, Heap.get?_push_size _ rfl, rfl, rfl⟩, hat2.push _⟩, fun b hb => ?_, by omega, CmpOf.ints_gt (numAt xs) (fun i v hv => ?_), fun v h' tk hP hk => ?_⟩
  · show b < ((s1.heap.push _).push _).objs.size
    rw [Heap.size_push]
    rcases List.mem_cons.mp hb with rfl | hb
    · exact Nat.lt_succ_self _
    · rw [List.mem_singleton.mp hb, Heap.size_push]
      exact Nat.lt_succ_of_lt (Nat.lt_succ_of_lt hdl)
  · obtain ⟨k, hk⟩ := hv
    refine intItems_at (v := v) ?_
    rw [← exs, List.getElem?_toArray, List.getElem?_map, hk]
    rfl
  · obtain ⟨k, hk2⟩ := hP
    have e2 : (intItems xs)[argBest (fun i j => decide (numAt xs i > numAt xs j)) (vs.length - 1)]? = some v := by
      rw [← exs, List.getElem?_toArray, List.getElem?_map, hk2]
      rfl
    obtain ⟨t, rfl⟩ := intItems_at e2
    rw [vx]
    obtain ⟨h1, h2⟩ := argBest_gt (numAt xs) (xs.size - 1)
    refine ⟨.int _, H1, I2.kept (t' := tk) ?_, ⟨_, rfl⟩, q _ ?_ fun a ha => ?_⟩
    · exact fun b o' e => hk b o' (fun hb => absurd (Heap.lt_size e) ((List.mem_singleton.mp hb) ▸ Nat.lt_irrefl _)) (Heap.get?_push_of_some _ e)
    · rw [numAt_eq]
      exact PySem.getD_mem (by rw [List.length_map, Array.length_toList]; omega)
    · obtain ⟨j, hj, rfl⟩ := mem_getD ha
      rw [List.length_map, Array.length_toList] at hj
      rw [← numAt_eq]
      exact h2 j (by omega)
end Far

namespace Far
open PySem PySem.Spec PyProof.Rows L2
/-- three tuples as they stand at each turn, the items in new triples -/
def ItzT3 (K : PySem.W.Frag) (a b c : Addr) : It :=
  ⟨fun i H => ∃ (xs ys zs : List V) (x y u : V), SqT K H a xs ∧ SqT K H b ys ∧ SqT K H c zs ∧ xs[i]? = some x ∧ ys[i]? = some y ∧ zs[i]? = some u,
    fun i H v H' => ∃ T x y u, v = .ref T ∧ H T = none ∧ H' = upd H T (.tup [x, y, u]) ∧ (∀ xs, SqT K H a xs → xs[i]? = some x) ∧ (∀ ys, SqT K H b ys → ys[i]? = some y) ∧ ∀ zs, SqT K H c zs → zs[i]? = some u,
    fun i H => ∃ xs ys zs : List V, SqT K H a xs ∧ SqT K H b ys ∧ SqT K H c zs ∧ xs.length = i ∧ ys.length = i ∧ zs.length = i⟩
def St3 (a b c z TI TO i1 i2 i3 : Addr) (i : Nat) (h : Heap) : Prop :=
  IsZip h z TI TO .none ∧ IsTupOf3 h TI (.ref i1) (.ref i2) (.ref i3) ∧ (∃ a1 a2 a3, IsTupOf3 h TO a1 a2 a3) ∧ h.IsTupleIter i1 a i ∧ h.IsTupleIter i2 b i ∧ h.IsTupleIter i3 c i
theorem turn_zip3 {P : Program} {w : World} {K : PySem.W.Frag} {elts : List Expr} {kk : Nat} {tpos : Pos} {a b c z TI TO i1 i2 i3 : Addr} (D : ZipSep3 z TI TO i1 i2 i3 [i1, a] [i2, b] [i3, c]) (na : a ≠ i1) (nb : b ≠ i2) (nc : c ≠ i3) :
    Turn P w K (.Tuple elts kk tpos) (ItzT3 K a b c) [z, TI, TO, i1, i2, i3] z (St3 a b c z TI TO i1 i2 i3) where
  mem := by simp
  obj := fun i h st e hc => by
    obtain ⟨hz, hTI, ⟨x, y, u, hTO⟩, ⟨o1, e1, _, d1⟩, ⟨o2, e2, _, d2⟩, ⟨o3, e3, _, d3⟩⟩ := st
    have e' : e = z ∨ e = TI ∨ e = TO ∨ e = i1 ∨ e = i2 ∨ e = i3 := by simpa using hc
    rcases e' with q | q | q | q | q | q
    · rw [q]; exact ⟨_, hz, fun v q => nomatch q⟩
    · rw [q]; exact ⟨_, hTI, fun v q => nomatch q⟩
    · rw [q]; exact ⟨_, hTO, fun v q => nomatch q⟩
    · rw [q]; exact ⟨o1, e1, fun v q => by rw [d1] at q; cases q⟩
    · rw [q]; exact ⟨o2, e2, fun v q => by rw [d2] at q; cases q⟩
    · rw [q]; exact ⟨o3, e3, fun v q => by rw [d3] at q; cases q⟩
  keep := fun i h h' st k => by
    obtain ⟨hz, hTI, ⟨x, y, u, hTO⟩, h1, h2, h3⟩ := st
    exact ⟨k z (by simp) _ hz, k TI (by simp) _ hTI, ⟨x, y, u, k TO (by simp) _ hTO⟩, h1.at fun o q => k i1 (by simp) o q, h2.at fun o q => k i2 (by simp) o q, h3.at fun o q => k i3 (by simp) o q⟩
  item := by
    intro X hP hw hK hc i pins s σ H E I hf st hg
    subst hP hw hK
    obtain ⟨hz, hTI, ⟨x0, y0, u0, hTO⟩, h1, h2, h3⟩ := st
    obtain ⟨xs, ys, zs, x, y, u, hqx, hqy, hqz, hx, hy, hu⟩ := hg
    obtain ⟨its, rv, p, _⟩ := I.tuple hqx
    obtain ⟨its2, rv2, p2, _⟩ := I.tuple hqy
    obtain ⟨its3, rv3, p3, _⟩ := I.tuple hqz
    obtain ⟨w1, hw1, rw1⟩ := rv.get hx
    obtain ⟨w2, hw2, rw2⟩ := rv2.get hy
    obtain ⟨w3, hw3, rw3⟩ := rv3.get hu
    have hd := I.ok.hd hc
    have l1 := (List.getElem?_eq_some_iff.mp hw1).1
    have l2 := (List.getElem?_eq_some_iff.mp hw2).1
    have l3 := (List.getElem?_eq_some_iff.mp hw3).1
    have WT := WalksT.zipD3 (prog := X.prog) (w := X.w) (A := X.A) D (Draws.tuple (A := X.A.in1) hd i1 a na its.toArray) (Draws.tuple (A := X.A.in1) hd i2 b nb its2.toArray) (Draws.tuple (A := X.A.in1) hd i3 c nc its3.toArray)
    have lts : ∀ e, e ∈ [z, TI, TO, i1, i2, i3] → e < s.heap.objs.size := fun e hc => by
      have e' : e = z ∨ e = TI ∨ e = TO ∨ e = i1 ∨ e = i2 ∨ e = i3 := by simpa using hc
      rcases e' with q | q | q | q | q | q
      · rw [q]; exact Heap.lt_size hz
      · rw [q]; exact Heap.lt_size hTI
      · rw [q]; exact Heap.lt_size hTO
      · rw [q]; obtain ⟨_, e1, _⟩ := h1; exact Heap.lt_size e1
      · rw [q]; obtain ⟨_, e1, _⟩ := h2; exact Heap.lt_size e1
      · rw [q]; obtain ⟨_, e1, _⟩ := h3; exact Heap.lt_size e1
    have sub : ∀ e, e ∉ [z, TI, TO, i1, i2, i3] → e ∉ [z, TO, i1, i2, i3] := fun e hb hm => hb (by
      have e' : e = z ∨ e = TO ∨ e = i1 ∨ e = i2 ∨ e = i3 := by simpa using hm
      rcases e' with q | q | q | q | q <;> rw [q] <;> simp)
    refine WT.item i s _ E (by simp; omega) ⟨hz, hTI, ⟨_, _, _, hTO⟩, ⟨h1, p⟩, ⟨h2, p2⟩, ⟨h3, p3⟩⟩ fun T vals h' tk hP hT hTup mid hk => ?_
    obtain ⟨x1, x2, x3, q1, q2, q3, rfl⟩ := hP
    have e1 : x1 = w1 := Option.some.inj (q1.symm.trans (by simpa using hw1))
    have e2 : x2 = w2 := Option.some.inj (q2.symm.trans (by simpa using hw2))
    have e3 : x3 = w3 := Option.some.inj (q3.symm.trans (by simpa using hw3))
    subst e1 e2 e3
    refine ⟨_, rfl, WT.go elts kk tpos i T _ _ E mid fun h'' st'' hk2 => ?_⟩
    have hT2 : h''.IsTuple T #[x1, x2, x3] := hTup.at fun o e => hk2 T o (WT.apart i T h' mid) e
    have new : ObjOk X.prog X.w (upd H T (.tup [x, y, u])) h'' T (.tup [x, y, u]) :=
      ⟨by show 3 ≤ sizeLine; decide, [x1, x2, x3], .cons rw1 (.cons rw2 (.cons rw3 .nil)), hT2⟩
    have I1 : Inv X pins σ (upd H T (.tup [x, y, u])) { s with heap := h'', toks := tk } :=
      I.turnedNew (t' := tk) (ch := [z, TI, TO, i1, i2, i3]) (fun e o hb q => hk2 e o (sub e hb) (hk e o (sub e hb) q)) hf hT new
    refine ⟨.ref T, _, I1, rfl, ⟨_, x, y, u, rfl, I.hok.fresh hT, rfl, fun l hl => by rw [I.tuple_inj hl hqx]; exact hx, fun l hl => by rw [I.tuple_inj hl hqy]; exact hy, fun l hl => by rw [I.tuple_inj hl hqz]; exact hu⟩, ⟨st''.1, st''.2.1, st''.2.2.1, st''.2.2.2.1.1, st''.2.2.2.2.1.1, st''.2.2.2.2.2.1⟩, fun e hem => ?_⟩
    rw [upd_ne (Nat.ne_of_lt (Nat.lt_of_lt_of_le (lts e hem) hT))]
    exact (hf e hem).1
  done := by
    intro X hP hw hK hc i pins s σ H E I hf st hg
    subst hP hw hK
    obtain ⟨hz, hTI, ⟨x0, y0, u0, hTO⟩, h1, h2, h3⟩ := st
    obtain ⟨xs, ys, zs, hqx, hqy, hqz, hx, hy, hu⟩ := hg
    obtain ⟨its, rv, p, _⟩ := I.tuple hqx
    obtain ⟨its2, rv2, p2, _⟩ := I.tuple hqy
    obtain ⟨its3, rv3, p3, _⟩ := I.tuple hqz
    have l1 := rv.length
    have l2 := rv2.length
    have l3 := rv3.length
    have hd := I.ok.hd hc
    have WT := WalksT.zipD3 (prog := X.prog) (w := X.w) (A := X.A) D (Draws.tuple (A := X.A.in1) hd i1 a na its.toArray) (Draws.tuple (A := X.A.in1) hd i2 b nb its2.toArray) (Draws.tuple (A := X.A.in1) hd i3 c nc its3.toArray)
    have en : min (min its.toArray.size its2.toArray.size) its3.toArray.size = i := by simp; omega
    rw [en] at WT
    have sub : ∀ e, e ∉ [z, TI, TO, i1, i2, i3] → e ∉ [z, TO, i1, i2, i3] := fun e hb hm => hb (by
      have e' : e = z ∨ e = TO ∨ e = i1 ∨ e = i2 ∨ e = i3 := by simpa using hm
      rcases e' with q | q | q | q | q <;> rw [q] <;> simp)
    refine WT.done s _ E ⟨hz, hTI, ⟨_, _, _, hTO⟩, ⟨h1, p⟩, ⟨h2, p2⟩, ⟨h3, p3⟩⟩ fun h' tk hk => ?_
    exact ⟨rfl, I.turnedL (t' := tk) (ch := [z, TI, TO, i1, i2, i3]) (fun e o hb q => hk e o (sub e hb) q) hf⟩
  self := fun A i s Q E st h => by
    exact wpAny_pyIter_zip st.1 h
def iZip3 (K : PySem.W.Frag) (ta : TA) : TI := fun σ H R => ta σ H fun vs H1 => ∃ a b c xs ys zs, vs = [.ref a, .ref b, .ref c] ∧ SqT K H1 a xs ∧ SqT K H1 b ys ∧ SqT K H1 c zs ∧ R (ItzT3 K a b c) H1
theorem pi_zip3 {X : Cx} {e e2 e3 : Expr} {ta : TA} {p pos tpos : Pos} {elts : List Expr} {kk : Nat} (hg : Gl X "zip") (hm : X.mg "zip" = none) (ha : PA X [e, e2, e3] ta)
    (hs : starEach [e, e2, e3] X.env = (false, eval e X.env) :: starEach [e2, e3] X.env := by rfl) (hpl : (backTo pos (starEach [e2, e3] X.env)).any (·.1) = false := by rfl) :
    PI X (.Tuple elts kk tpos) (.Call (.Name "zip" p) [e, e2, e3] [] pos) (iZip3 X.K ta) := by
  refine ⟨fun pins s σ H R I h => ?_⟩
  refine Call_ (ld_blt I hg hm PyProof.Rows.boot_zip (PyProof.Rows.callWith_type1 (thn (ha.run pos pins s σ H _ I h) fun us s1 ⟨vs, H1, I1, r1, q1⟩ => ?_) hs hpl))
  obtain ⟨a, b, c, xs, ys, zs, ex, hqx, hqy, hqz, q⟩ := q1
  subst ex
  cases r1 with
  | cons r rr =>
    cases rr with
    | cons r' rr =>
      cases rr with
      | cons r'' rr =>
        cases rr
        cases r
        cases r'
        cases r''
        have fresh6 : ∀ c, c ∈ [s1.heap.objs.size + 5, s1.heap.objs.size + 3, s1.heap.objs.size + 4, s1.heap.objs.size, s1.heap.objs.size + 1, s1.heap.objs.size + 2] → FpOk X pins H1 c := fun c hcm => by
          have e' : c = s1.heap.objs.size + 5 ∨ c = s1.heap.objs.size + 3 ∨ c = s1.heap.objs.size + 4 ∨ c = s1.heap.objs.size ∨ c = s1.heap.objs.size + 1 ∨ c = s1.heap.objs.size + 2 := by simpa using hcm
          have hle : s1.heap.objs.size ≤ c := by
            rcases e' with z | z | z | z | z | z
            · rw [z]; exact Nat.le_add_right _ _
            · rw [z]; exact Nat.le_add_right _ _
            · rw [z]; exact Nat.le_add_right _ _
            · rw [z]; exact Nat.le_refl _
            · rw [z]; exact Nat.le_add_right _ _
            · rw [z]; exact Nat.le_add_right _ _
          exact I1.fpOk hle (I1.hok.fresh hle)
        obtain ⟨its, rv, p1, _⟩ := I1.tuple hqx
        obtain ⟨its2, rv2, p2, _⟩ := I1.tuple hqy
        obtain ⟨its3, rv3, p3, _⟩ := I1.tuple hqz
        have la : a < s1.heap.objs.size := by
          obtain ⟨o, ho, _⟩ := id p1
          exact Heap.lt_size ho
        have lb : b < s1.heap.objs.size := by
          obtain ⟨o, ho, _⟩ := id p2
          exact Heap.lt_size ho
        have lc : c < s1.heap.objs.size := by
          obtain ⟨o, ho, _⟩ := id p3
          exact Heap.lt_size ho
        refine zip_begins3 (begins_tuple a its.toArray) (begins_tuple b its2.toArray) (begins_tuple c its3.toArray) p1 p2 p3 fun h' hz hTI hTO g1 g2 g3 hsz hk => wpAny_pyIter_zip hz ?_
        have I2 : Inv X pins σ H1 { s1 with heap := h' } := I1.kept (t' := s1.toks) hk
        exact ⟨s1.heap.objs.size + 5, [s1.heap.objs.size + 5, s1.heap.objs.size + 3, s1.heap.objs.size + 4, s1.heap.objs.size, s1.heap.objs.size + 1, s1.heap.objs.size + 2], _, _, H1, rfl, I2,
          turn_zip3 (zip_sep3 (N := s1.heap.objs.size) (fp1 := [a]) (fp2 := [b]) (fp3 := [c]) (fun e he => by rw [List.mem_singleton.mp he]; exact la) (fun e he => by rw [List.mem_singleton.mp he]; exact lb) (fun e he => by rw [List.mem_singleton.mp he]; exact lc)) (Nat.ne_of_lt la) (Nat.ne_of_lt (Nat.lt_succ_of_lt lb)) (Nat.ne_of_lt (Nat.lt_succ_of_lt (Nat.lt_succ_of_lt lc))),
          ⟨hz, hTI, ⟨_, _, _, hTO⟩, ⟨_, g1, rfl, rfl⟩, ⟨_, g2, rfl, rfl⟩, ⟨_, g3, rfl, rfl⟩⟩, fresh6, q⟩
/-- a loop over zip of three tuples of one length -/
theorem for_zip3 {K : PySem.W.Frag} {a b c : Addr} {xs ys zs : List V} {g : TG} {tb : TS} {D : Ends} {σ : L2.St} {H : Hp} (e1 : xs.length = ys.length) (e2 : xs.length = zs.length) (Pv : Nat → L2.St → Hp → Prop) (h0 : Pv 0 σ H) (hl : ∀ i σ H, Pv i σ H → SqT K H a xs ∧ SqT K H b ys ∧ SqT K H c zs)
    (hs : ∀ i x y u σ H T, xs[i]? = some x → ys[i]? = some y → zs[i]? = some u → Pv i σ H → H T = none → g (.ref T) σ (upd H T (.tup [x, y, u])) fun σ2 H2 => tb { D with nx := Pv (i + 1), ct := Pv (i + 1), bk := D.nx } σ2 H2) (hd : ∀ σ H, Pv xs.length σ H → D.nx σ H) :
    ∃ W : Nat → Nat → L2.St → Hp → Prop, (∃ m, W 0 m σ H) ∧ ∀ i m σ H, W i m σ H →
      ((ItzT3 K a b c).stop i H ∧ D.nx σ H) ∨ ((ItzT3 K a b c).go i H ∧ ∃ N : L2.St → Hp → Prop, (∀ σ' H', N σ' H' → ∃ m', m' < m ∧ W (i + 1) m' σ' H') ∧ ∀ x H', (ItzT3 K a b c).yld i H x H' → g x σ H' fun σ2 H2 => tb { D with nx := N, ct := N, bk := D.nx } σ2 H2) := by
  refine ⟨fun i m σ H => m = xs.length - i ∧ i ≤ xs.length ∧ Pv i σ H, ⟨xs.length, by simp, Nat.zero_le _, h0⟩, fun i m σ H ⟨em, hi, p⟩ => ?_⟩
  obtain ⟨q1, q2, q3⟩ := hl i σ H p
  by_cases lt : i < xs.length
  · have lt2 : i < ys.length := by omega
    have lt3 : i < zs.length := by omega
    refine .inr ⟨⟨xs, ys, zs, xs[i], ys[i], zs[i], q1, q2, q3, by simp [lt], by simp [lt2], by simp [lt3]⟩, Pv (i + 1), fun σ' H' p' => ⟨xs.length - (i + 1), by omega, rfl, lt, p'⟩, fun v H' ⟨T, x, y, u, ev, nT, eH, hx, hy, hu⟩ => ?_⟩
    rw [ev, eH]
    exact hs i x y u σ H T (hx xs q1) (hy ys q2) (hu zs q3) p nT
  · have e : i = xs.length := by omega
    rw [e] at p
    exact .inl ⟨⟨xs, ys, zs, q1, q2, q3, by omega, by omega, by omega⟩, hd σ H p⟩
end Far

namespace Far
open PySem PySem.Spec PyProof.Rows L2
open C8 (pss_cut tCut)
open SX (S)
def mn2 (i j : Int) : Int := if j < i then j else i
/-- how far a place is from the point, times twice the below -/
noncomputable def dbl (ts : List Tie) (p : Pt) (y : Nm) : Int := 2 * mn2 (dist ts p.1 y * p.2.2.2 + p.2.2.1) ((dist ts p.2.1 y + dist ts p.1 p.2.1) * p.2.2.2 - p.2.2.1)
theorem at_name {pl : List Nm} {i : Nat} {v : V} (hi : ((pl.map S).map V.str)[i]? = some v) : ∃ x, pl[i]? = some x ∧ x ∈ pl ∧ v = .str (S x) ∧ pl.take (i + 1) = pl.take i ++ [x] := by
  rw [List.getElem?_map, List.getElem?_map] at hi
  cases e : pl[i]? with
  | none => rw [e] at hi; cases hi
  | some x =>
    rw [e] at hi
    exact ⟨x, rfl, List.mem_of_getElem? e, (Option.some.inj hi).symm, by rw [List.take_add_one, e]; rfl⟩
abbrev s_doubled_from : Stmt := topS 13
abbrev N_doubled_from : List Str := ["tree", "point", "one", "other", "above", "below", "tie", "told", "place", "by_one", "by_other"]
theorem sc_doubled_from : FnScope N_doubled_from ["tree", "point"] (defScope s_doubled_from) := ⟨rfl, rfl, rfl, by decide +kernel, rfl, by decide +kernel, by decide +kernel⟩
section
variable {P : Program} {w : World} {K : PySem.W.Frag} {mg : Str → Option Value} {base : Heap}
def spDbl : Sp := fun vs H Q _ => ∃ (v u : V) (pl : List Nm) (ts : List Tie) (p : Pt), vs = [v, u] ∧ Dt H v (treeD pl ts) ∧ Fine pl ts ∧ Dt H u (ptD p) ∧ p.1 ∈ pl ∧ p.2.1 ∈ pl ∧ (-(2 ^ 64) < p.2.2.2 ∧ p.2.2.2 < 2 ^ 64) ∧
  ∀ (H' : Hp) (q : Addr), Same H H' → H q = none → H' q = some (.dK (dkm pl fun y => .int (dbl ts p y))) → Q (.ref q) H'
theorem ok_doubled {f : Addr} {fd : FuncData} (F : Fun K "_doubled_from" "_doubled_from" s_doubled_from f fd) (T : TxtH mg) (Clength_between : Cal P w K mg base 3 "length_between" spLen) (Clengths_from : Cal P w K mg base 3 "lengths_from" spLens) : FnOk P w K mg base CX0 4 f fd ["tree", "point"] spDbl := by
  refine F.ok sc_doubled_from (fun vs H Q E h => ?_) (fun cdv A outer s H vs Q E hr h => ?_)
  · obtain ⟨v, u, pl, ts, p, rfl, _⟩ := h
    rfl
  · obtain ⟨v, u, pl, ts, ⟨one, other, above, below⟩, rfl, hd, fine, hu, m1, m2, hb, q⟩ := h
    obtain ⟨t, a, b, vs, rfl, ht, ha, hb', hA⟩ := dt_tree hd
    obtain ⟨g, r, rfl, hg, hr2⟩ := dt_pt hu
    dsimp only at m1 m2 hb hg hr2 q
    have pll := fine.len
    refine ⟨_, (pss_cons (ps_asg (pv 1) (pg_tup rfl (pgs_cons (pg_name (i := 2) sc_doubled_from.nd rfl (.inl rfl)) (pgs_cons (pg_name (i := 3) sc_doubled_from.nd rfl (.inl rfl)) (pgs_cons (pg_tup rfl (pgs_cons (pg_name (i := 4) sc_doubled_from.nd rfl (.inl rfl)) (pgs_cons (pg_name (i := 5) sc_doubled_from.nd rfl (.inl rfl)) pgs_nil))) pgs_nil)))))
      (pss_cons (ps_set (i := 6) sc_doubled_from.nd rfl (.inl rfl) (pe_c Clength_between hr (by decide) rfl (pa_cons (pv 0) (pa_cons (pv 2) (pa_cons (pv 3) pa_nil)))))
      (pss_cons (ps_set (i := 7) sc_doubled_from.nd rfl (.inl rfl) pe_dnewK)
      (pss_cut (ps_for PassesOwn.never rfl (pi_zip3 (by rfl) T.zip (pa_cons (pe_ix ix_tup (pv 0) pe_int (fun _ _ => rfl)) (pa_cons (pe_c Clengths_from hr (by decide) rfl (pa_cons (pv 0) (pa_cons (pv 2) pa_nil))) (pa_cons (pe_c Clengths_from hr (by decide) rfl (pa_cons (pv 0) (pa_cons (pv 3) pa_nil))) pa_nil)))) (pg_tup rfl (pgs_cons (pg_name (i := 8) sc_doubled_from.nd rfl (.inl rfl)) (pgs_cons (pg_name (i := 9) sc_doubled_from.nd rfl (.inl rfl)) (pgs_cons (pg_name (i := 10) sc_doubled_from.nd rfl (.inl rfl)) pgs_nil))))
        (pss_one (ps_dput (hu_of hr) (pv 7) (pv 8) (pe_op op_mul pe_int (pe_callB (call_min2 rfl) (by rfl) T.min bt_min (pa_cons (pe_op op_add (pe_op op_mul (pv 9) (pv 5)) (pv 4)) (pa_cons (pe_op op_sub (pe_op op_mul (pe_op op_add (pv 10) (pv 6)) (pv 5)) (pv 4)) pa_nil)))) rfl)))
      (pss_one (ps_ret (pv 7))))))), ?_⟩
    refine ⟨_, rfl, g, _, rfl, SqT.of hg, rfl, _, _, rfl, _, _, rfl, _, _, rfl, r, _, rfl, SqT.of hr2, rfl, _, _, rfl, _, _, rfl, rfl, rfl, ?_⟩
    refine ⟨_, rfl, _, rfl, _, rfl, .ref t, pl, ts, one, other, rfl, hd, fine, m1, m2, fun H1 S1 => ?_⟩
    refine fun D nD => ?_
    have S2 := same_new (o := .dK []) S1 nD
    have nD0 := S1.free nD
    have hD0 : (upd H1 D (.dK [])) D = some (.dK []) := upd_same
    generalize upd H1 D (.dK []) = H2 at S2 hD0
    refine ⟨fun σ' H' => ∃ (x8 x9 x10 : Option V), σ' = [some (.ref t), some (.ref g), some (.str (S one)), some (.str (S other)), some (.int above), some (.int below), some (.int (dist ts one other)), some (.ref D), x8, x9, x10] ∧ Same H H' ∧ H' D = some (.dK (dkm pl fun y => .int (dbl ts (one, other, above, below) y))), ?_, fun σ' H' hM => ?_⟩
    rotate_left
    · obtain ⟨x8, x9, x10, rfl, S4, hD⟩ := hM
      exact ⟨_, rfl, q H' D S4 nD0 hD⟩
    · refine ⟨_, rfl, t, _, 0, .ref a, rfl, rfl, SqT.of (S2 _ _ ht), atI_nat (j := 0) rfl, ?_⟩
      refine ⟨_, rfl, _, rfl, .ref t, pl, ts, one, rfl, Dt.keep (TK.of S2) hd, fine, m1, fun H3 q3 S3 n3 h3 => ?_⟩
      refine ⟨_, rfl, _, rfl, .ref t, pl, ts, other, rfl, Dt.keep (TK.of (S2.trans S3)) hd, fine, m2, fun H4 q4 S4 n4 h4 => ?_⟩
      have h34 := S4 _ _ h3
      have S24 := S2.trans (S3.trans S4)
      have hD4 := S4 _ _ (S3 _ _ hD0)
      have D3 : q3 ≠ D := ne_of h34 hD4 (by intro z; cases z)
      have D4 : q4 ≠ D := ne_of h4 hD4 (by intro z; cases z)
      refine ⟨a, q3, q4, _, _, _, rfl, (ha.same S24).sq, SqT.of h34, SqT.of h4, for_zip3 (K := K) (a := a) (b := q3) (c := q4) (xs := (pl.map S).map V.str) (ys := pl.map fun x => .int (dist ts one x)) (zs := pl.map fun x => .int (dist ts other x)) (by simp) (by simp) (fun i σ' H' => ∃ (x8 x9 x10 : Option V), σ' = [some (.ref t), some (.ref g), some (.str (S one)), some (.str (S other)), some (.int above), some (.int below), some (.int (dist ts one other)), some (.ref D), x8, x9, x10] ∧ Same H H' ∧ H' q3 = some (.tup (pl.map fun x => .int (dist ts one x))) ∧ H' q4 = some (.tup (pl.map fun x => .int (dist ts other x))) ∧ H' D = some (.dK (dkm (pl.take i) fun y => .int (dbl ts (one, other, above, below) y))))
        ⟨none, none, none, rfl, S24, h34, h4, hD4⟩ (fun i σ' H' hP => ?_) (fun i x y u σ' H' T1 hx hy hz hP nT => ?_) (fun σ' H' hP => ?_)⟩
      · obtain ⟨_, _, _, _, S5, g3, g4, _⟩ := hP
        exact ⟨(ha.same S5).sq, SqT.of g3, SqT.of g4⟩
      · obtain ⟨x8, x9, x10, rfl, S5, g3, g4, hD⟩ := hP
        obtain ⟨nm, hnm, mnm, rfl, ex⟩ := at_name hx
        have ey : y = .int (dist ts one nm) := by
          rw [List.getElem?_map, hnm] at hy
          exact (Option.some.inj hy).symm
        have eu : u = .int (dist ts other nm) := by
          rw [List.getElem?_map, hnm] at hz
          exact (Option.some.inj hz).symm
        subst ey eu
        have il := (List.getElem?_eq_some_iff.mp hnm).1
        have W1 := same_new (o := .tup [.str (S nm), .int (dist ts one nm), .int (dist ts other nm)]) (Same.refl H') nT
        have S6 := S5.trans W1
        have g3' := W1 _ _ g3
        have g4' := W1 _ _ g4
        have hD' := W1 _ _ hD
        have hT : (upd H' T1 (.tup [.str (S nm), .int (dist ts one nm), .int (dist ts other nm)])) T1 = some (.tup [.str (S nm), .int (dist ts one nm), .int (dist ts other nm)]) := upd_same
        generalize upd H' T1 (.tup [.str (S nm), .int (dist ts one nm), .int (dist ts other nm)]) = H6 at S6 g3' g4' hD' hT
        refine ⟨T1, _, rfl, SqT.of hT, rfl, _, _, rfl, _, _, rfl, _, _, rfl, rfl, ?_⟩
        refine ⟨_, rfl, _, rfl, _, _, rfl, rfl, .inr hb, _, rfl, _, _, rfl, rfl, ?_⟩
        refine ⟨_, rfl, _, rfl, _, _, rfl, rfl, _, rfl, _, _, rfl, rfl, .inr hb, _, rfl, _, _, rfl, rfl, ?_⟩
        refine ⟨_, _, rfl, _, _, rfl, rfl, .inl ⟨by decide, by decide⟩, ?_⟩
        have nn : nm ∉ pl.take i := fun hm => by
          have nd : (pl.take (i + 1)).Nodup := List.Nodup.sublist (List.take_sublist _ _) fine.tree.nodup
          rw [ex] at nd
          exact (List.nodup_append.mp nd).2.2 nm hm nm (List.mem_cons_self ..) rfl
        refine ⟨_, rfl, _, rfl, D, _, rfl, DPut.k (k := Sum.inr (S nm)) hD' (by unfold dkm; rw [List.length_map, List.length_take]; exact sz_lt (by omega)), ?_⟩
        refine ⟨_, _, _, rfl, same_put S6 nD0, by rw [upd_ne D3]; exact g3', by rw [upd_ne D4]; exact g4', ?_⟩
        rw [upd_same, dkm_new nn, ex]
        refine congrArg (fun z => some (HO.dK z)) (dkm_cong fun z _ => ?_)
        by_cases c : z = nm
        · rw [if_pos c, c]
          rfl
        · rw [if_neg c]
      · obtain ⟨x8, x9, x10, rfl, S5, _, _, hD⟩ := hP
        rw [List.length_map, List.length_map, List.take_length] at hD
        exact ⟨_, _, _, rfl, S5, hD⟩
abbrev s_paper_shown : Stmt := topS 11
abbrev N_paper_shown : List Str := ["tree", "number", "paper", "point", "one", "other", "doubled", "half"]
theorem sc_paper_shown : FnScope N_paper_shown ["tree", "number", "paper"] (defScope s_paper_shown) := ⟨rfl, rfl, rfl, by decide +kernel, rfl, by decide +kernel, by decide +kernel⟩
abbrev Pap := Pt × Nm × Nm
def papD (x : Pap) : PyData := .tuple [ptD x.1, .tuple [strD x.2.1, strD x.2.2]]
theorem dt_pap {H : Hp} {v : V} {x : Pap} (h : Dt H v (papD x)) : ∃ (g r : Addr) (u : V), v = .ref g ∧ H g = some (.tup [u, .ref r]) ∧ Dt H u (ptD x.1) ∧ TupAt H r [.str (S x.2.1), .str (S x.2.2)] := by
  obtain ⟨t, u, y, rfl, ht, hx, hy⟩ := dt_pair h fun l z => nomatch z
  obtain ⟨r, rfl, hr⟩ := dt_names (pl := [x.2.1, x.2.2]) hy
  exact ⟨t, r, u, rfl, ht, hx, hr⟩
theorem isPt_mem {pl : List Nm} {ts : List Tie} {p : Pt} (F : IsTree pl ts) (h : isPt pl ts p = true) : p.1 ∈ pl ∧ p.2.1 ∈ pl := by
  unfold isPt at h
  by_cases c : p.1 = p.2.1
  · rw [if_pos c, Bool.and_eq_true, decide_eq_true_eq] at h
    exact ⟨h.1, c ▸ h.1⟩
  · rw [if_neg c] at h
    by_cases c1 : p.2.2.2 < 1
    · rw [if_pos c1] at h
      cases h
    · rw [if_neg c1] at h
      by_cases c2 : ((Nat.gcd p.2.2.1.natAbs p.2.2.2.natAbs : Nat) : Int) ≠ 1
      · rw [if_pos c2] at h
        cases h
      · rw [if_neg c2] at h
        cases e : ts.find? (joins p.1 p.2.1) with
        | none =>
          rw [e] at h
          cases h
        | some t =>
          have m := List.mem_of_find?_eq_some e
          have j := List.find?_some e
          have ti := F.ties t m
          unfold joins at j
          have c4 := of_decide_eq_true j
          simp only [List.mem_cons, List.not_mem_nil, or_false] at c4
          rcases c4 with e | e
          · have e1 : t.1 = p.1 := congrArg Prod.fst e
            have e2 : t.2.1 = p.2.1 := congrArg Prod.snd e
            exact ⟨e1 ▸ ti.1, e2 ▸ ti.2.1⟩
          · have e1 : t.1 = p.2.1 := congrArg Prod.fst e
            have e2 : t.2.1 = p.1 := congrArg Prod.snd e
            exact ⟨e2 ▸ ti.2.1, e1 ▸ ti.1⟩
open Classical in
/-- what the paper must show -/
noncomputable def shown (pl : List Nm) (ts : List Tie) (n : Int) (x : Pap) : Bool :=
  isPt pl ts x.1 && decide (x.2.1 ∈ pl ∧ x.2.2 ∈ pl ∧ dist ts x.2.1 x.2.2 = n ∧ dbl ts x.1 x.2.1 = n * x.1.2.2.2 ∧ dbl ts x.1 x.2.2 = n * x.1.2.2.2 ∧ ∀ y ∈ pl, dbl ts x.1 y ≤ n * x.1.2.2.2)
def spShown : Sp := fun vs H Q _ => ∃ (v u : V) (n : Int) (pl : List Nm) (ts : List Tie) (x : Pap), vs = [v, .int n, u] ∧ Dt H v (treeD pl ts) ∧ PlZ H v pl ∧ Fine pl ts ∧ Dt H u (papD x) ∧ NameOk x.1.1 ∧ NameOk x.1.2.1 ∧ (-(2 ^ 64) < x.1.2.2.2 ∧ x.1.2.2.2 < 2 ^ 64) ∧ ∀ H' : Hp, Same H H' → Q (.bl (shown pl ts n x)) H'
theorem ok_shown {f : Addr} {fd : FuncData} (F : Fun K "paper_shown" "paper_shown" s_paper_shown f fd) (T : TxtH mg) (Clength_between : Cal P w K mg base 3 "length_between" spLen) (C_is_point : Cal P w K mg base 3 "_is_point" spIsPt) (C_doubled_from : Cal P w K mg base 4 "_doubled_from" spDbl) : FnOk P w K mg base CX0 5 f fd ["tree", "number", "paper"] spShown := by
  refine F.ok sc_paper_shown (fun vs H Q E h => ?_) (fun cdv A outer s H vs Q E hr h => ?_)
  · obtain ⟨v, u, n, pl, ts, x, rfl, _⟩ := h
    rfl
  · obtain ⟨v, u, n, pl, ts, ⟨pt, x1, x2⟩, rfl, hd, hz, fine, hu, n1, n2, hb, q⟩ := h
    obtain ⟨t, a, b, vs, rfl, ht, ha, hb', hA⟩ := dt_tree hd
    obtain ⟨g, r, up, rfl, hg, hp, hr2⟩ := dt_pap hu
    dsimp only at n1 n2 hb hg hp hr2 q
    have pll := fine.len
    have fin : ∀ (b : Bool) (H' : Hp), shown pl ts n (pt, x1, x2) = b → Same H H' → Q (.bl b) H' := fun b H' e S => by
      rw [← e]
      exact q H' S
    refine ⟨_, (pss_cons (ps_asg (pv 2) (pg_tup rfl (pgs_cons (pg_name (i := 3) sc_paper_shown.nd rfl (.inl rfl)) (pgs_cons (pg_tup rfl (pgs_cons (pg_name (i := 4) sc_paper_shown.nd rfl (.inl rfl)) (pgs_cons (pg_name (i := 5) sc_paper_shown.nd rfl (.inl rfl)) pgs_nil))) pgs_nil))))
      (pss_cut (ps_if (pt_not (pt_val (pe_c C_is_point hr (by decide) rfl (pa_cons (pv 0) (pa_cons (pv 3) pa_nil)))))
        (pss_one (ps_ret pe_bl))
        pss_nil)
      (pss_cut (ps_if (PW.pt (pw_or (pt_cmpR op_notIn_seq (pv 4) (pe_ix ix_tup (pv 0) pe_int (fun _ _ => rfl)) rfl) (pw_or1 (pt_cmpR op_notIn_seq (pv 5) (pe_ix ix_tup (pv 0) pe_int (fun _ _ => rfl)) rfl))))
        (pss_one (ps_ret pe_bl))
        pss_nil)
      (pss_cut (ps_if (pt_cmpR op_ne (pe_c Clength_between hr (by decide) rfl (pa_cons (pv 0) (pa_cons (pv 4) (pa_cons (pv 5) pa_nil)))) (pv 1) (nomark _))
        (pss_one (ps_ret pe_bl))
        pss_nil)
      (pss_cons (ps_set (i := 6) sc_paper_shown.nd rfl (.inl rfl) (pe_c C_doubled_from hr (by decide) rfl (pa_cons (pv 0) (pa_cons (pv 3) pa_nil))))
      (pss_cons (ps_set (i := 7) sc_paper_shown.nd rfl (.inl rfl) (pe_op op_mul (pv 1) (pe_ix ix_tup (pe_ix ix_tup (pv 3) pe_int (fun _ _ => rfl)) pe_int (fun _ _ => rfl))))
      (pss_cut (ps_if (PW.pt (pw_or (pt_cmpR op_ne (pe_dget (hu_of hr) (pv 6) (pv 4) (fun _ _ => rfl)) (pv 7) (nomark _)) (pw_or1 (pt_cmpR op_ne (pe_dget (hu_of hr) (pv 6) (pv 5) (fun _ _ => rfl)) (pv 7) (nomark _)))))
        (pss_one (ps_ret pe_bl))
        pss_nil)
      (pss_one (ps_ret (pe_cmpR op_le (pe_maxVals rfl (pv 6) (by rfl) T.max bt_max) (pv 7) (nomark _))))))))))), ?_⟩
    refine ⟨_, rfl, g, _, rfl, SqT.of hg, rfl, _, _, rfl, _, _, rfl, r, _, rfl, hr2.sq, rfl, _, _, rfl, _, _, rfl, rfl, rfl, ?_⟩
    refine ⟨fun σ' H' => isPt pl ts pt = true ∧ σ' = [some (.ref t), some (.int n), some (.ref g), some up, some (.str (S x1)), some (.str (S x2)), none, none] ∧ Same H H', ?_, fun σ' H1 hM => ?_⟩
    · refine ⟨_, rfl, _, rfl, .ref t, up, pl, ts, pt, rfl, hd, hz, fine, hp, n1, n2, fun H1 S1 => ⟨_, rfl, ?_⟩⟩
      cases c : isPt pl ts pt with
      | true => exact iteF' rfl ⟨rfl, rfl, S1⟩
      | false =>
        refine iteT' rfl (fin _ _ ?_ S1)
        unfold shown
        dsimp only
        rw [c, Bool.false_and]
    obtain ⟨cp, rfl, S1⟩ := hM
    obtain ⟨m1, m2⟩ := isPt_mem fine.tree cp
    refine ⟨fun σ' H' => (x1 ∈ pl ∧ x2 ∈ pl) ∧ σ' = [some (.ref t), some (.int n), some (.ref g), some up, some (.str (S x1)), some (.str (S x2)), none, none] ∧ Same H H', ?_, fun σ' H2 hM => ?_⟩
    · have no : ¬ (x1 ∈ pl ∧ x2 ∈ pl) → shown pl ts n (pt, x1, x2) = false := fun h => by
        unfold shown
        dsimp only
        rw [decide_eq_false (fun z => h ⟨z.1, z.2.1⟩), Bool.and_false]
      refine ⟨_, rfl, _, rfl, t, _, 0, .ref a, rfl, rfl, SqT.of (S1 _ _ ht), atI_nat (j := 0) rfl, a, _, rfl, .inr (ha.same S1).sq, rfl, flat_strs pl, _, rfl, ?_⟩
      rw [inV_strs]
      by_cases c1 : x1 ∈ pl
      · refine iteF' (by rw [decide_eq_true c1]; rfl) ?_
        refine ⟨_, rfl, _, rfl, t, _, 0, .ref a, rfl, rfl, SqT.of (S1 _ _ ht), atI_nat (j := 0) rfl, a, _, rfl, .inr (ha.same S1).sq, rfl, flat_strs pl, _, rfl, ?_⟩
        rw [inV_strs]
        by_cases c2 : x2 ∈ pl
        · exact iteF' (by rw [decide_eq_true c2]; rfl) ⟨⟨c1, c2⟩, rfl, S1⟩
        · exact iteT' (by rw [decide_eq_false c2]; rfl) (fin _ _ (no fun z => c2 z.2) S1)
      · exact iteT' (by rw [decide_eq_false c1]; rfl) (iteT (fin _ _ (no fun z => c1 z.1) S1))
    obtain ⟨⟨p1, p2⟩, rfl, S2⟩ := hM
    refine ⟨fun σ' H' => dist ts x1 x2 = n ∧ σ' = [some (.ref t), some (.int n), some (.ref g), some up, some (.str (S x1)), some (.str (S x2)), none, none] ∧ Same H H', ?_, fun σ' H3 hM => ?_⟩
    · refine ⟨_, rfl, _, rfl, _, rfl, .ref t, pl, ts, x1, x2, rfl, Dt.keep (TK.of S2) hd, fine, p1, p2, fun H3 S3 => ⟨_, rfl, rfl, _, rfl, ?_⟩⟩
      by_cases c : dist ts x1 x2 = n
      · exact iteF' (by rw [c, decide_eq_true rfl]; rfl) ⟨c, rfl, S2.trans S3⟩
      · refine iteT' (by rw [decide_eq_false fun z => c (V.int.inj z)]; rfl) (fin _ _ ?_ (S2.trans S3))
        unfold shown
        dsimp only
        rw [decide_eq_false (fun z => c z.2.2.1), Bool.and_false]
    obtain ⟨cl, rfl, S3⟩ := hM
    refine ⟨_, rfl, _, rfl, .ref t, up, pl, ts, pt, rfl, Dt.keep (TK.of S3) hd, fine, Dt.keep (TK.of S3) hp, m1, m2, hb, fun H4 D S4 nD hD => ?_⟩
    obtain ⟨gp, rp, eup, hgp, hrp⟩ := dt_pt (Dt.keep (TK.of (S3.trans S4)) hp)
    subst eup
    refine ⟨_, rfl, _, rfl, gp, _, 2, .ref rp, rfl, rfl, SqT.of hgp, atI_nat (j := 2) rfl, rp, _, 1, .int pt.2.2.2, rfl, rfl, SqT.of hrp, atI_nat (j := 1) rfl, _, _, rfl, rfl, .inr hb, ?_⟩
    refine ⟨fun σ' H' => (dbl ts pt x1 = n * pt.2.2.2 ∧ dbl ts pt x2 = n * pt.2.2.2) ∧ σ' = [some (.ref t), some (.int n), some (.ref g), some (.ref gp), some (.str (S x1)), some (.str (S x2)), some (.ref D), some (.int (n * pt.2.2.2))] ∧ H' = H4, ?_, fun σ' H5 hM => ?_⟩
    · have no : ¬ (dbl ts pt x1 = n * pt.2.2.2 ∧ dbl ts pt x2 = n * pt.2.2.2) → shown pl ts n (pt, x1, x2) = false := fun h => by
        unfold shown
        dsimp only
        rw [decide_eq_false (fun z => h ⟨z.2.2.2.1, z.2.2.2.2.1⟩), Bool.and_false]
      refine ⟨_, rfl, _, rfl, D, .int (dbl ts pt x1), rfl, by rw [← dkm_get (f := fun y => V.int (dbl ts pt y)) p1]; exact DGet.k (k := Sum.inr (S x1)) hD, _, rfl, rfl, _, rfl, ?_⟩
      by_cases c1 : dbl ts pt x1 = n * pt.2.2.2
      · refine iteF' (by rw [c1, decide_eq_true rfl]; rfl) ?_
        refine ⟨_, rfl, _, rfl, D, .int (dbl ts pt x2), rfl, by rw [← dkm_get (f := fun y => V.int (dbl ts pt y)) p2]; exact DGet.k (k := Sum.inr (S x2)) hD, _, rfl, rfl, _, rfl, ?_⟩
        by_cases c2 : dbl ts pt x2 = n * pt.2.2.2
        · exact iteF' (by rw [c2, decide_eq_true rfl]; rfl) ⟨⟨c1, c2⟩, rfl, rfl⟩
        · exact iteT' (by rw [decide_eq_false fun z => c2 (V.int.inj z)]; rfl) (fin _ _ (no fun z => c2 z.2) (S3.trans S4))
      · exact iteT' (by rw [decide_eq_false fun z => c1 (V.int.inj z)]; rfl) (iteT (fin _ _ (no fun z => c1 z.1) (S3.trans S4)))
    obtain ⟨⟨c1, c2⟩, rfl, rfl⟩ := hM
    have ev : (dkm pl fun y => V.int (dbl ts pt y)).map (·.2) = (pl.map (dbl ts pt)).map V.int := by
      unfold dkm
      rw [List.map_map, List.map_map]
      rfl
    refine ⟨_, rfl, D, _, pl.map (dbl ts pt), rfl, hD, ev, by rw [List.length_map]; exact List.length_pos_iff.mpr fine.ne, fun m hm hle => ?_⟩
    refine ⟨_, rfl, _, _, rfl, rfl, ?_⟩
    refine fin _ _ ?_ (S3.trans S4)
    unfold shown
    dsimp only
    rw [cp, Bool.true_and]
    refine decide_eq_decide.mpr ⟨fun z => ?_, fun z => ⟨p1, p2, cl, c1, c2, fun y hy => Int.le_trans (hle _ (List.mem_map_of_mem hy)) z⟩⟩
    obtain ⟨y, hy, rfl⟩ := List.mem_map.mp hm
    exact z.2.2.2.2.2 y hy
end
end Far

namespace Far
open PySem PySem.Spec PyProof.Rows L2
open C8 (pss_cut tCut)
theorem gcd_turn (a b : Int) : Nat.gcd b.natAbs (a % b).natAbs = Nat.gcd a.natAbs b.natAbs := by
  have e : a = b * (a / b) + a % b := (Int.mul_ediv_add_emod a b).symm
  refine Nat.dvd_antisymm (Nat.dvd_gcd ?_ (Nat.gcd_dvd_left ..)) (Nat.dvd_gcd (Nat.gcd_dvd_right ..) ?_)
  · have h1 : ((Nat.gcd b.natAbs (a % b).natAbs : Nat) : Int) ∣ b := Int.ofNat_dvd_left.mpr (Nat.gcd_dvd_left ..)
    have h2 : ((Nat.gcd b.natAbs (a % b).natAbs : Nat) : Int) ∣ a % b := Int.ofNat_dvd_left.mpr (Nat.gcd_dvd_right ..)
    have h3 := Int.dvd_add (Int.dvd_trans h1 (Int.dvd_mul_right b (a / b))) h2
    rw [← e] at h3
    exact Int.ofNat_dvd_left.mp h3
  · have h1 : ((Nat.gcd a.natAbs b.natAbs : Nat) : Int) ∣ a := Int.ofNat_dvd_left.mpr (Nat.gcd_dvd_left ..)
    have h2 : ((Nat.gcd a.natAbs b.natAbs : Nat) : Int) ∣ b := Int.ofNat_dvd_left.mpr (Nat.gcd_dvd_right ..)
    have h3 := Int.dvd_sub h1 (Int.dvd_trans h2 (Int.dvd_mul_right b (a / b)))
    rw [show a - b * (a / b) = a % b by omega] at h3
    exact Int.ofNat_dvd_left.mp h3
abbrev s_law_divides : Stmt := topS 24
abbrev N_law_divides : List Str := ["one", "other"]
theorem sc_law_divides : FnScope N_law_divides ["one", "other"] (defScope s_law_divides) := ⟨rfl, rfl, rfl, by decide +kernel, rfl, by decide +kernel, by decide +kernel⟩
section
variable {P : Program} {w : World} {K : PySem.W.Frag} {mg : Str → Option Value} {base : Heap}
def spDiv : Sp := fun vs H Q _ => ∃ a b : Int, vs = [.int a, .int b] ∧ 0 < b ∧ ∀ H' : Hp, Same H H' → Q (.int ((Nat.gcd a.natAbs b.natAbs : Nat) : Int)) H'
theorem ok_divides {f : Addr} {fd : FuncData} (F : Fun K "_law_divides" "_law_divides" s_law_divides f fd) (T : TxtH mg) : FnOk P w K mg base CX0 1 f fd ["one", "other"] spDiv := by
  refine F.ok sc_law_divides (fun vs H Q E h => ?_) (fun cdv A outer s H vs Q E hr h => ?_)
  · obtain ⟨a, b, rfl, _⟩ := h
    rfl
  · obtain ⟨a, b, rfl, b0, q⟩ := h
    refine ⟨_, (pss_cut (ps_while PassesOwn.never (pt_cmpR op_ne (pv 1) pe_int (nomark _))
        (pss_one (ps_par (i := 0) (j := 1) rfl sc_law_divides.nd rfl rfl (by decide) rfl rfl (pa_cons (pv 1) (pa_cons (pe_op op_mod (pv 0) (pv 1)) pa_nil)) rfl)))
      (pss_one (ps_ret (pe_callB (call_max2 rfl) (by rfl) T.max bt_max (pa_cons (pv 0) (pa_cons (pe_op op_sub pe_int (pv 0)) pa_nil)))))), ?_⟩
    refine ⟨fun σ' H' => ∃ a' : Int, σ' = [some (.int a'), some (.int 0)] ∧ a'.natAbs = Nat.gcd a.natAbs b.natAbs ∧ Same H H', ?_, fun σ' H' hM => ?_⟩
    · refine ⟨fun m σ' H' => ∃ a' b' : Int, σ' = [some (.int a'), some (.int b')] ∧ 0 ≤ b' ∧ m = b'.toNat ∧ Nat.gcd a'.natAbs b'.natAbs = Nat.gcd a.natAbs b.natAbs ∧ Same H H', ⟨_, a, b, rfl, by omega, rfl, rfl, Same.refl H⟩, fun m σ' H' hW => ?_⟩
      obtain ⟨a', b', rfl, b1, rfl, eg, S1⟩ := hW
      refine ⟨_, rfl, rfl, _, rfl, ?_⟩
      by_cases c : b' = 0
      · subst c
        refine iteF' (by rw [decide_eq_true rfl]; rfl) ⟨a', rfl, ?_, S1⟩
        rw [← eg]
        simp
      · refine iteT' (by rw [decide_eq_false fun z => c (V.int.inj z)]; rfl) ?_
        have b2 : 0 < b' := by omega
        refine ⟨fun σ2 H2 => ∃ p q : Int, σ2 = [some (.int p), some (.int q)] ∧ p = b' ∧ q = a' % b' ∧ Same H H2, fun σ2 H2 hN => ?_, ?_⟩
        · obtain ⟨p, q, rfl, rfl, rfl, S2⟩ := hN
          have h1 := Int.emod_nonneg a' (by omega : p ≠ 0)
          have h2 := Int.emod_lt_of_pos a' b2
          exact ⟨_, by omega, _, _, rfl, h1, rfl, (gcd_turn a' p).trans eg, S2⟩
        · exact ⟨_, rfl, _, rfl, _, rfl, _, _, rfl, rfl, b2, _, _, rfl, _, _, rfl, rfl, rfl, S1⟩
    · obtain ⟨a', rfl, eg, S1⟩ := hM
      refine ⟨_, rfl, _, rfl, _, _, rfl, rfl, _, _, rfl, ?_⟩
      rw [← eg] at q
      have e : (if 0 - a' > a' then 0 - a' else a') = ((a'.natAbs : Nat) : Int) := by
        split <;> omega
      show Q (.int (if 0 - a' > a' then 0 - a' else a')) _
      rw [e]
      exact q _ S1
end
end Far

namespace Far
open PySem PySem.Spec PyProof.Rows L2
open C8 (pss_cut tCut)
open SX (S)
abbrev s_law_lengths : Stmt := topS 21
abbrev N_law_lengths : List Str := ["tree", "places", "ties", "found", "place", "far", "waiting", "here", "one", "other", "length", "end", "there"]
theorem sc_law_lengths : FnScope N_law_lengths ["tree"] (defScope s_law_lengths) := ⟨rfl, rfl, rfl, by decide +kernel, rfl, by decide +kernel, by decide +kernel⟩
/-- the lengths from u to those of fs at fa, those to be gone on from at wa, all else as at H0 -/
structure LW (H0 H' : Hp) (fa wa : Addr) (ts : List Tie) (u : Nm) (fs st : List Nm) : Prop where
  same : Same H0 H'
  far : H' fa = some (.dK (dkm fs fun x => .int (dist ts u x)))
  wait : H' wa = some (.lst ((st.map S).map V.str))
theorem LW.ne {H0 H' : Hp} {fa wa : Addr} {ts : List Tie} {u : Nm} {fs st : List Nm} (w : LW H0 H' fa wa ts u fs st) : fa ≠ wa := ne_of w.far w.wait (by intro z; cases z)
theorem LW.new {H0 H' : Hp} {fa wa p : Addr} {o : HO} {ts : List Tie} {u : Nm} {fs st : List Nm} (w : LW H0 H' fa wa ts u fs st) (np : H' p = none) : LW H0 (upd H' p o) fa wa ts u fs st :=
  ⟨same_new w.same np, by rw [upd_ne (ne_of_none w.far np)]; exact w.far, by rw [upd_ne (ne_of_none w.wait np)]; exact w.wait⟩
theorem LW.setW {H0 H' : Hp} {fa wa : Addr} {ts : List Tie} {u : Nm} {fs st st' : List Nm} (w : LW H0 H' fa wa ts u fs st) (n0 : H0 wa = none) : LW H0 (upd H' wa (.lst ((st'.map S).map V.str))) fa wa ts u fs st' :=
  ⟨same_put w.same n0, by rw [upd_ne w.ne]; exact w.far, upd_same⟩
theorem LW.setF {H0 H' : Hp} {fa wa : Addr} {ts : List Tie} {u y : Nm} {n : Int} {fs st : List Nm} (w : LW H0 H' fa wa ts u fs st) (n0 : H0 fa = none) (e : dist ts u y = n) : LW H0 (upd H' fa (.dK (dkm (fs ++ [y]) fun z => if z = y then V.int n else .int (dist ts u z)))) fa wa ts u (fs ++ [y]) st := by
  refine ⟨same_put w.same n0, ?_, by rw [upd_ne w.ne.symm]; exact w.wait⟩
  rw [upd_same]
  refine congrArg (fun z => some (HO.dK z)) (dkm_cong fun z _ => ?_)
  by_cases q : z = y
  · rw [if_pos q, q, e]
  · rw [if_neg q]
/-- the first i ties are gone along from h -/
def NbT (l : List Tie) (h : Nm) (fs : List Nm) : Prop := ∀ e ∈ l, (e.1 = h → e.2.1 ∈ fs) ∧ (e.2.1 = h → e.1 ∈ fs)
theorem NbT.more {l : List Tie} {h y : Nm} {fs : List Nm} (n : NbT l h fs) : NbT l h (fs ++ [y]) := fun e he => ⟨fun z => List.mem_append_left _ ((n e he).1 z), fun z => List.mem_append_left _ ((n e he).2 z)⟩
/-- at D for each of us a list of its own: how far all places are -/
structure RowsAt (H : Hp) (D : Addr) (pl us : List Nm) (ts : List Tie) (ad : Nm → Addr) : Prop where
  all : H D = some (.lst (us.map fun u => .ref (ad u)))
  each : ∀ u ∈ us, H (ad u) = some (.lst (pl.map fun x => .int (dist ts u x)))
  ne : ∀ u ∈ us, ad u ≠ D
theorem RowsAt.keep {H H' : Hp} {D : Addr} {pl us : List Nm} {ts : List Tie} {ad : Nm → Addr} (r : RowsAt H D pl us ts ad) (s : Same H H') : RowsAt H' D pl us ts ad := ⟨s _ _ r.all, fun u hu => s _ _ (r.each u hu), r.ne⟩
section
variable {P : Program} {w : World} {K : PySem.W.Frag} {mg : Str → Option Value} {base : Heap}
def spLengths : Sp := fun vs H Q _ => ∃ (v : V) (pl : List Nm) (ts : List Tie), vs = [v] ∧ Dt H v (treeD pl ts) ∧ Fine pl ts ∧ ∀ (H' : Hp) (D : Addr) (ad : Nm → Addr), Same H H' → H D = none → RowsAt H' D pl pl ts ad → (∀ u ∈ pl, H (ad u) = none) → Q (.ref D) H'
theorem ok_lengths {f : Addr} {fd : FuncData} (F : Fun K "_law_lengths" "_law_lengths" s_law_lengths f fd) : FnOk P w K mg base CX0 2 f fd ["tree"] spLengths := by
  refine F.ok sc_law_lengths (fun vs H Q E h => ?_) (fun cdv A outer s H vs Q E hr h => ?_)
  · obtain ⟨v, pl, ts, rfl, _⟩ := h
    rfl
  · obtain ⟨v, pl, ts, rfl, hd, fine, q⟩ := h
    obtain ⟨t, a, b, vs, rfl, ht, ha, hb, hA⟩ := dt_tree hd
    refine ⟨_, (pss_cons (ps_asg (pv 0) (pg_tup rfl (pgs_cons (pg_name (i := 1) sc_law_lengths.nd rfl (.inl rfl)) (pgs_cons (pg_name (i := 2) sc_law_lengths.nd rfl (.inl rfl)) pgs_nil))))
      (pss_cons (ps_set (i := 3) sc_law_lengths.nd rfl (.inl rfl) (pe_lst pa_nil))
      (pss_cut (ps_for PassesOwn.never rfl (pi_tup (pv 1)) (pg_name (i := 4) sc_law_lengths.nd rfl (.inl rfl))
        (pss_cons (ps_set (i := 5) sc_law_lengths.nd rfl (.inr rfl) (pe_disp (pps_cons (pv 4) pe_int pps_nil) (by rfl) (by rfl) (fun z => by cases z) (by decide)))
        (pss_cons (ps_set (i := 6) sc_law_lengths.nd rfl (.inl rfl) (pe_lst (pa_cons (pv 4) pa_nil)))
        (pss_cut (ps_while PassesOwn.never (pt_cmpR (op_neD (hd_of hr (by decide))) (pv 6) (pe_lst pa_nil) (nomark _))
          (pss_cons (ps_set (i := 7) sc_law_lengths.nd rfl (.inl rfl) (pe_bm0 PySem.F.plainAttrs_list PySem.F.slot_list_pop PySem.F.type_list_pop mt_pop (pv 6)))
          (pss_one (ps_for PassesOwn.never rfl (pi_tup (pv 2)) (pg_tup rfl (pgs_cons (pg_name (i := 8) sc_law_lengths.nd rfl (.inl rfl)) (pgs_cons (pg_name (i := 9) sc_law_lengths.nd rfl (.inl rfl)) (pgs_cons (pg_name (i := 10) sc_law_lengths.nd rfl (.inl rfl)) pgs_nil))))
            (pss_one (ps_for PassesOwn.never rfl (pi_tup (pe_tup (pa_cons (pe_tup (pa_cons (pv 8) (pa_cons (pv 9) pa_nil))) (pa_cons (pe_tup (pa_cons (pv 9) (pa_cons (pv 8) pa_nil))) pa_nil)))) (pg_tup rfl (pgs_cons (pg_name (i := 11) sc_law_lengths.nd rfl (.inl rfl)) (pgs_cons (pg_name (i := 12) sc_law_lengths.nd rfl (.inl rfl)) pgs_nil)))
              (pss_one (ps_if (PW.pt (pw_and (pt_cmpR op_eq (pv 11) (pv 7) (nomark _)) (pw_and1 (pt_cmp (pc_dnotin (hu_of hr) (pv 12) (pv 5))))))
                (pss_cons (ps_dput (hu_of hr) (pv 5) (pv 12) (pe_op op_add (pe_dget (hu_of hr) (pv 5) (pv 7) (fun _ _ => rfl)) (pv 10)) rfl)
                (pss_one (ps_expr (pe_bm PySem.F.plainAttrs_list PySem.F.slot_list_append PySem.F.type_list_append mt_append (pv 6) (pa_cons (pv 12) pa_nil)))))
                pss_nil))))))))
        (pss_one (ps_expr (pe_bm PySem.F.plainAttrs_list PySem.F.slot_list_append PySem.F.type_list_append mt_append (pv 3) (pa_cons (pe_lc (own := [("other", 9)]) (g := gName 9) (tt := tYes) rfl sc_law_lengths.nd (pi_tup (pv 1)) (blkOk_by (N := N_law_lengths) (sc := defScope s_law_lengths) (by decide +kernel)) (fun _ _ _ _ _ => pg_name (i := 9) sc_law_lengths.nd rfl (Or.inl rfl)) (fun _ _ _ _ _ => pts_nil) (fun _ _ _ _ _ => (pe_dget (hu_of hr) (pv 5) (pv 9) (fun _ _ => rfl)))) pa_nil))))))))
      (pss_one (ps_ret (pv 3)))))), ?_⟩
    have tr := fine.tree
    have nd := tr.nodup
    have pl1 := fine.len
    have tl1 := tr.len
    have vl : vs.length = ts.length := by
      have := DtAll.len hA
      rwa [List.length_map] at this
    refine ⟨_, rfl, t, _, rfl, SqT.of ht, rfl, _, _, rfl, _, _, rfl, rfl, ?_⟩
    refine ⟨Nat.zero_le _, fun D nD => ?_⟩
    refine ⟨fun σ' H' => ∃ (x4 x5 x6 x7 x8 x9 x10 x11 x12 : Option V) (ad : Nm → Addr), σ' = [some (.ref t), some (.ref a), some (.ref b), some (.ref D), x4, x5, x6, x7, x8, x9, x10, x11, x12] ∧ Same H H' ∧ RowsAt H' D pl pl ts ad ∧ ∀ u ∈ pl, H (ad u) = none, ?_, fun σ' H' hM => ?_⟩
    · refine ⟨_, rfl, a, rfl, ⟨_, (ha.same (same_new (Same.refl H) nD)).sq⟩, for_tup (K := K) (a := a) (xs := (pl.map S).map V.str) (fun i σ' H' => ∃ (x4 x5 x6 x7 x8 x9 x10 x11 x12 : Option V) (ad : Nm → Addr), σ' = [some (.ref t), some (.ref a), some (.ref b), some (.ref D), x4, x5, x6, x7, x8, x9, x10, x11, x12] ∧ Same H H' ∧ RowsAt H' D pl (pl.take i) ts ad ∧ ∀ u ∈ pl.take i, H (ad u) = none)
        ⟨none, none, none, none, none, none, none, none, none, fun _ => 0, rfl, same_new (Same.refl H) nD, ⟨upd_same, fun u hu => (by cases hu), fun u hu => (by cases hu)⟩, fun u hu => (by cases hu)⟩ (fun i σ' H' _ hP => ?_) (fun i x σ' H' hi hP => ?_) (fun σ' H' hP => ?_)⟩
      · obtain ⟨_, _, _, _, _, _, _, _, _, _, _, sm, _⟩ := hP
        exact (ha.same sm).sq
      · obtain ⟨x4, x5, x6, x7, x8, x9, x10, x11, x12, ad, rfl, SM, rows, free⟩ := hP
        rw [List.getElem?_map, List.getElem?_map] at hi
        cases el : pl[i]? with
        | none =>
          rw [el] at hi
          cases hi
        | some u =>
          rw [el] at hi
          have ex : x = .str (S u) := (Option.some.inj hi).symm
          subst ex
          have hu : u ∈ pl := List.mem_of_getElem? el
          have un : u ∉ pl.take i := fun hm => by
            obtain ⟨j, hj, ej⟩ := List.mem_take_iff_getElem.mp hm
            obtain ⟨hi', ei⟩ := List.getElem?_eq_some_iff.mp el
            have := (List.getElem_inj nd).mp (ej.trans ei.symm)
            omega
          -- far, waiting
          refine fun fa nfa => ⟨_, rfl, upd_same, [(Sum.inr (S u), .int 0)], rfl, (by decide : 1 ≤ 15), ?_⟩
          rw [upd_upd]
          refine ⟨_, rfl, (by show 1 ≤ sizeLine; decide), fun wa nwa => ?_⟩
          have fw : fa ≠ wa := ne_of_none upd_same nwa
          have wa0 : H' wa = none := by
            rw [upd_ne fw.symm] at nwa
            exact nwa
          have L0 : LW H' (upd (upd H' fa (.dK (mergeK [] [((Sum.inr (S u) : Key), V.int 0)]))) wa (.lst [.str (S u)])) fa wa ts u [u] [u] := by
            refine ⟨same_new (same_new (Same.refl H') nfa) nwa, ?_, upd_same⟩
            rw [upd_ne fw]
            refine upd_same.trans ?_
            unfold dkm
            rw [List.map_singleton]
            show some (HO.dK [((Sum.inr (S u) : Key), V.int 0)]) = some (HO.dK [((Sum.inr (S u) : Key), V.int (dist ts u u))])
            rw [(tr.dist_self u).1]
          generalize upd (upd H' fa (.dK (mergeK [] [((Sum.inr (S u) : Key), V.int 0)]))) wa (.lst [.str (S u)]) = H1 at L0
          -- the walk
          refine ⟨fun σ2 H2 => ∃ (fs : List Nm) (prev : Nm → Nm) (x7 x8 x9 x10 x11 x12 : Option V), σ2 = [some (.ref t), some (.ref a), some (.ref b), some (.ref D), some (.str (S u)), some (.ref fa), some (.ref wa), x7, x8, x9, x10, x11, x12] ∧ LW H' H2 fa wa ts u fs [] ∧ Wk pl ts u fs [] prev (fun _ => False), ?_, fun σ2 H2 hM => ?_⟩
          · refine ⟨fun m σ2 H2 => ∃ (fs st : List Nm) (prev : Nm → Nm) (x7 x8 x9 x10 x11 x12 : Option V), σ2 = [some (.ref t), some (.ref a), some (.ref b), some (.ref D), some (.str (S u)), some (.ref fa), some (.ref wa), x7, x8, x9, x10, x11, x12] ∧ LW H' H2 fa wa ts u fs st ∧ Wk pl ts u fs st prev (fun _ => False) ∧ st.length ≤ fs.length ∧ 2 * fs.length + m = 2 * pl.length + st.length,
              ⟨2 * pl.length - 1, [u], [u], fun _ => u, x7, x8, x9, x10, x11, x12, rfl, L0, Wk.start tr hu, Nat.le_refl _, by have := List.length_pos_of_mem hu; simp; omega⟩, ?_⟩
            rintro m σ2 H2 ⟨fs, st, prev, x7, x8, x9, x10, x11, x12, rfl, L2', wk, sl, em⟩
            refine ⟨_, rfl, Nat.zero_le _, fun p2 np2 => ?_⟩
            have L3 := L2'.new (o := .lst []) np2
            have ok : ∀ l ∈ st, NameOk l := fun l hl => fine.ok l (wk.sub l (wk.sti l hl))
            refine ⟨_, _, .lst (SqL.of L3.wait) (dp_strs _ _ st), .lst (SqL.of upd_same) .nil, shaped_strs ok, rfl, _, rfl, ?_⟩
            refine ite2 (fun e1 => ?_) (fun e1 => ?_)
            · rcases List.eq_nil_or_concat st with rfl | ⟨st', h, e⟩
              · exact absurd e1 (by decide)
              rw [List.concat_eq_append] at e
              subst e
              obtain ⟨hh, wk1⟩ := wk.pop
              have fl := nodup_sub_len fs pl wk.nd wk.sub
              rw [List.length_append, List.length_singleton] at em sl
              refine ⟨fun σ' H'' => ∃ (fs' st'' : List Nm) (prev' : Nm → Nm) (x7 x8 x9 x10 x11 x12 : Option V), σ' = [some (.ref t), some (.ref a), some (.ref b), some (.ref D), some (.str (S u)), some (.ref fa), some (.ref wa), x7, x8, x9, x10, x11, x12] ∧ LW H' H'' fa wa ts u fs' st'' ∧ Wk pl ts u fs' st'' prev' (fun _ => False) ∧ fs.length ≤ fs'.length ∧ fs'.length + st'.length = fs.length + st''.length, ?_, ?_⟩
              · rintro σ' H'' ⟨fs', st'', prev', y7, y8, y9, y10, y11, y12, e1, e2, e7, e8, e9⟩
                have fl' := nodup_sub_len fs' pl e7.nd e7.sub
                exact ⟨2 * pl.length + st''.length - 2 * fs'.length, by omega, fs', st'', prev', y7, y8, y9, y10, y11, y12, e1, e2, e7, by omega, by omega⟩
              have hw := L3.wait
              have ne : ((st' ++ [h]).map S).map V.str = (st'.map S).map V.str ++ [.str (S h)] := by
                rw [List.map_append, List.map_append]
                rfl
              rw [ne] at hw
              refine ⟨_, rfl, .inl ⟨rfl, _, SqL.of hw⟩, wa, _, .str (S h), rfl, rfl, hw, by simp, ?_⟩
              rw [List.dropLast_concat]
              have L4 := L3.setW (st' := st') wa0
              generalize upd (upd H2 p2 (.lst [])) wa (.lst ((st'.map S).map V.str)) = H4 at L4
              -- the ties
              refine ⟨_, rfl, b, rfl, ⟨_, SqT.of (L4.same _ _ (SM _ _ hb))⟩, for_tup (K := K) (a := b) (xs := vs) (fun i σ' H'' => ∃ (fs' st'' : List Nm) (prev' : Nm → Nm) (x8 x9 x10 x11 x12 : Option V), σ' = [some (.ref t), some (.ref a), some (.ref b), some (.ref D), some (.str (S u)), some (.ref fa), some (.ref wa), some (.str (S h)), x8, x9, x10, x11, x12] ∧ LW H' H'' fa wa ts u fs' st'' ∧ Wk pl ts u fs' st'' prev' (fun x => x = h) ∧ fs.length ≤ fs'.length ∧ fs'.length + st'.length = fs.length + st''.length ∧ h ∈ fs' ∧ NbT (ts.take i) h fs')
                ⟨fs, st', prev, x8, x9, x10, x11, x12, rfl, L4, wk1, Nat.le_refl _, rfl, hh, fun e he => (by cases he)⟩ (fun i σ' H'' _ hP => ?_) (fun i x σ' H'' hi hP => ?_) (fun σ' H'' hP => ?_)⟩
              · obtain ⟨_, _, _, _, _, _, _, _, _, L5, _⟩ := hP
                exact SqT.of (L5.same _ _ (SM _ _ hb))
              · obtain ⟨fs', st'', prev', y8, y9, y10, y11, y12, rfl, L5, wk5, le5, em5, hh5, nb5⟩ := hP
                obtain ⟨d, hd', hx⟩ := DtAll.get hA hi
                rw [List.getElem?_map] at hd'
                cases ee : ts[i]? with
                | none =>
                  rw [ee] at hd'
                  cases hd'
                | some e =>
                  rw [ee] at hd'
                  have ed : d = tieD e := (Option.some.inj hd').symm
                  subst ed
                  obtain ⟨g, rfl, hg⟩ := dt_tie hx
                  have hem : e ∈ ts := List.mem_of_getElem? ee
                  have et : ts.take (i + 1) = ts.take i ++ [e] := by
                    rw [List.take_add_one, ee]
                    rfl
                  refine ⟨g, _, rfl, SqT.of (L5.same _ _ (SM _ _ hg)), rfl, _, _, rfl, _, _, rfl, _, _, rfl, rfl, ?_⟩
                  -- the two ways about
                  refine ⟨_, rfl, _, rfl, (by show 2 ≤ sizeLine; decide), fun c1 nc1 => ?_⟩
                  have L6 := L5.new (o := .tup [.str (S e.1), .str (S e.2.1)]) nc1
                  refine ⟨_, rfl, _, rfl, (by show 2 ≤ sizeLine; decide), fun c2 nc2 => ?_⟩
                  have L7 := L6.new (o := .tup [.str (S e.2.1), .str (S e.1)]) nc2
                  refine ⟨(by show 2 ≤ sizeLine; decide), fun c3 nc3 => ?_⟩
                  have L8 := L7.new (o := .tup [.ref c1, .ref c2]) nc3
                  have h1 : (upd (upd (upd H'' c1 (.tup [.str (S e.1), .str (S e.2.1)])) c2 (.tup [.str (S e.2.1), .str (S e.1)])) c3 (.tup [.ref c1, .ref c2])) c1 = some (.tup [.str (S e.1), .str (S e.2.1)]) := ((TK.new nc2).trans (TK.new nc3)).tup _ _ upd_same
                  have h2 : (upd (upd (upd H'' c1 (.tup [.str (S e.1), .str (S e.2.1)])) c2 (.tup [.str (S e.2.1), .str (S e.1)])) c3 (.tup [.ref c1, .ref c2])) c2 = some (.tup [.str (S e.2.1), .str (S e.1)]) := (TK.new nc3).tup _ _ upd_same
                  have h3 : (upd (upd (upd H'' c1 (.tup [.str (S e.1), .str (S e.2.1)])) c2 (.tup [.str (S e.2.1), .str (S e.1)])) c3 (.tup [.ref c1, .ref c2])) c3 = some (.tup [.ref c1, .ref c2]) := upd_same
                  generalize upd (upd (upd H'' c1 (.tup [.str (S e.1), .str (S e.2.1)])) c2 (.tup [.str (S e.2.1), .str (S e.1)])) c3 (.tup [.ref c1, .ref c2]) = H8 at L8 h1 h2 h3
                  refine ⟨c3, rfl, ⟨_, SqT.of h3⟩, for_tup (K := K) (a := c3) (xs := [.ref c1, .ref c2]) (fun j σ' H9 => ∃ (fs' st'' : List Nm) (prev' : Nm → Nm) (x11 x12 : Option V), σ' = [some (.ref t), some (.ref a), some (.ref b), some (.ref D), some (.str (S u)), some (.ref fa), some (.ref wa), some (.str (S h)), some (.str (S e.1)), some (.str (S e.2.1)), some (.int e.2.2), x11, x12] ∧ LW H' H9 fa wa ts u fs' st'' ∧ TK H8 H9 ∧ Wk pl ts u fs' st'' prev' (fun x => x = h) ∧ fs.length ≤ fs'.length ∧ fs'.length + st'.length = fs.length + st''.length ∧ h ∈ fs' ∧ NbT (ts.take i) h fs' ∧ (1 ≤ j → e.1 = h → e.2.1 ∈ fs') ∧ (2 ≤ j → e.2.1 = h → e.1 ∈ fs'))
                    ⟨fs', st'', prev', y11, y12, rfl, L8, TK.refl _, wk5, le5, em5, hh5, nb5, fun z => absurd z (by omega), fun z => absurd z (by omega)⟩ (fun j σ' H9 _ hP => ?_) (fun j x σ' H9 hj hP => ?_) (fun σ' H9 hP => ?_)⟩
                  · obtain ⟨_, _, _, _, _, _, _, tk, _⟩ := hP
                    exact SqT.of (tk.tup _ _ h3)
                  · clear wk5 le5 em5 hh5 nb5 L5 L6 L7 L8
                    clear fs' st'' prev'
                    obtain ⟨fs', st'', prev', y11, y12, rfl, L9, tk9, wk9, le9, em9, hh9, nb9, n1, n2⟩ := hP
                    obtain ⟨cc, pp, qq, rfl, hcc, hpq⟩ : ∃ (cc : Addr) (pp qq : Nm), x = .ref cc ∧ H8 cc = some (.tup [.str (S pp), .str (S qq)]) ∧ ((j = 0 ∧ pp = e.1 ∧ qq = e.2.1) ∨ (j = 1 ∧ pp = e.2.1 ∧ qq = e.1)) := by
                      match j, hj with
                      | 0, hj => exact ⟨c1, _, _, (Option.some.inj hj).symm, h1, .inl ⟨rfl, rfl, rfl⟩⟩
                      | 1, hj => exact ⟨c2, _, _, (Option.some.inj hj).symm, h2, .inr ⟨rfl, rfl, rfl⟩⟩
                    have adj : Adj ts pp qq e.2.2 := by
                      rcases hpq with ⟨_, z1, z2⟩ | ⟨_, z1, z2⟩ <;> rw [z1, z2]
                      · exact .inl hem
                      · exact .inr hem
                    have fl' := nodup_sub_len fs' pl wk9.nd wk9.sub
                    have szf : ∀ f : Nm → V, (dkm fs' f).length < sizeLine := fun f => by
                      unfold dkm
                      rw [List.length_map]
                      exact sz_lt (by omega)
                    -- what is known behind the turn, once qq is come to if pp is h
                    have nx : ∀ fs2 : List Nm, (∀ x ∈ fs', x ∈ fs2) → (pp = h → qq ∈ fs2) → NbT (ts.take i) h fs2 ∧ (1 ≤ j + 1 → e.1 = h → e.2.1 ∈ fs2) ∧ (2 ≤ j + 1 → e.2.1 = h → e.1 ∈ fs2) := fun fs2 sub hq => by
                      refine ⟨fun e' he' => ⟨fun z => sub _ ((nb9 e' he').1 z), fun z => sub _ ((nb9 e' he').2 z)⟩, fun _ z => ?_, fun z2 z => ?_⟩
                      · rcases hpq with ⟨j0, z1, z2⟩ | ⟨j1, z1, z2⟩
                        · rw [← z2]
                          exact hq (z1.trans z)
                        · exact sub _ (n1 (by omega) z)
                      · rcases hpq with ⟨j0, z1, z2'⟩ | ⟨j1, z1, z2'⟩
                        · omega
                        · rw [← z2']
                          exact hq (z1.trans z)
                    refine ⟨cc, _, rfl, SqT.of (tk9.tup _ _ hcc), rfl, _, _, rfl, _, _, rfl, rfl, ?_⟩
                    refine ⟨_, rfl, _, rfl, rfl, _, rfl, ?_⟩
                    refine ite2 (fun z1 => ?_) (fun z1 => ?_)
                    · have ph : pp = h := by
                        have := of_decide_eq_true z1
                        exact SX.S_inj (V.str.inj this)
                      refine ⟨_, rfl, _, rfl, fa, _, rfl, DGet.k (k := Sum.inr (S qq)) L9.far, _, rfl, ?_⟩
                      rw [dkm_some]
                      by_cases hy : qq ∈ fs'
                      · rw [decide_eq_true hy]
                        obtain ⟨k1, k2, k3⟩ := nx fs' (fun _ z => z) fun _ => hy
                        exact iteF ⟨fs', st'', prev', _, _, rfl, L9, tk9, wk9, le9, em9, hh9, k1, k2, k3⟩
                      · rw [decide_eq_false hy]
                        refine iteT ?_
                        rw [ph] at adj
                        obtain ⟨e1, wk8⟩ := wk9.push tr hh9 adj hy
                        refine ⟨_, rfl, _, rfl, fa, .int (dist ts u h), rfl, by rw [← dkm_get (f := fun x => V.int (dist ts u x)) hh9]; exact DGet.k (k := Sum.inr (S h)) L9.far, _, rfl, _, _, rfl, rfl, _, rfl, _, rfl, fa, _, rfl, DPut.k (k := Sum.inr (S qq)) L9.far (szf _), ?_⟩
                        rw [dkm_new hy]
                        have L10 := L9.setF nfa e1
                        have tk10 := tk9.trans (tkD (o := .dK (dkm (fs' ++ [qq]) fun z => if z = qq then V.int (dist ts u h + e.2.2) else .int (dist ts u z))) L9.far)
                        generalize upd H9 fa (.dK (dkm (fs' ++ [qq]) fun z => if z = qq then V.int (dist ts u h + e.2.2) else .int (dist ts u z))) = H10 at L10 tk10
                        have stl : st''.length ≤ 3000 := by omega
                        refine ⟨_, rfl, .inl ⟨rfl, _, SqL.of L10.wait⟩, _, rfl, wa, _, _, rfl, rfl, L10.wait, by rw [List.length_map, List.length_map]; exact sz_lt (by omega), ?_⟩
                        obtain ⟨k1, k2, k3⟩ := nx (fs' ++ [qq]) (fun _ z => List.mem_append_left _ z) fun _ => List.mem_append_right _ (List.mem_singleton.mpr rfl)
                        have ea : (st''.map S).map V.str ++ [V.str (S qq)] = ((st'' ++ [qq]).map S).map V.str := by
                          rw [List.map_append, List.map_append]
                          rfl
                        rw [ea]
                        exact ⟨fs' ++ [qq], st'' ++ [qq], _, _, _, rfl, L10.setW wa0, tk10.trans (TK.mut L10.wait), wk8, by rw [List.length_append]; omega, by rw [List.length_append, List.length_append]; omega, List.mem_append_left _ hh9, k1, k2, k3⟩
                    · have ph : pp ≠ h := fun z => by
                        rw [z] at z1
                        exact z1 (decide_eq_true rfl)
                      obtain ⟨k1, k2, k3⟩ := nx fs' (fun _ z => z) fun z => absurd z ph
                      exact ⟨fs', st'', prev', _, _, rfl, L9, tk9, wk9, le9, em9, hh9, k1, k2, k3⟩
                  · obtain ⟨fs', st'', prev', y11, y12, rfl, L9, tk9, wk9, le9, em9, hh9, nb9, n1, n2⟩ := hP
                    refine ⟨fs', st'', prev', _, _, _, _, _, rfl, L9, wk9, le9, em9, hh9, fun e' he' => ?_⟩
                    rw [et] at he'
                    rcases List.mem_append.mp he' with z | z
                    · exact nb9 e' z
                    · rw [List.mem_singleton.mp z]
                      exact ⟨n1 (by simp), n2 (by simp)⟩
              · obtain ⟨fs', st'', prev', y8, y9, y10, y11, y12, rfl, L5, wk5, le5, em5, hh5, nb5⟩ := hP
                rw [vl, List.take_length] at nb5
                refine ⟨fs', st'', prev', _, _, _, _, _, _, rfl, L5, wk5.shut fun y k hadj => ?_, le5, em5⟩
                rcases hadj with z | z
                · exact (nb5 _ z).1 rfl
                · exact (nb5 _ z).2 rfl
            · have st0 : st = [] := by
                cases st with
                | nil => rfl
                | cons a r => exact absurd rfl e1
              subst st0
              exact ⟨fs, prev, _, _, _, _, _, _, rfl, L3, wk⟩
          · obtain ⟨fs, prev, x7, x8, x9, x10, x11, x12, rfl, L2', wk⟩ := hM
            have wall := wk.all tr
            have ha2 := ha.same (SM.trans L2'.same)
            refine ⟨_, rfl, .inl ⟨rfl, _, SqL.of (L2'.same _ _ rows.all)⟩, _, rfl, a, rfl, ⟨_, ha2.sq⟩, fun R nR => ?_⟩
            have Ra : a ≠ R := ha2.ne nR
            have Rf : fa ≠ R := ne_of_none L2'.far nR
            refine lc_tup (K := K) (a := a) (xs := (pl.map S).map V.str) (fun i H' => H' = upd H2 R (.lst ((pl.take i).map fun x => .int (dist ts u x)))) rfl (fun i H' _ hP => ?_) (fun i x H' hi hP => ?_) (fun H3 hP => ?_)
            · rw [hP]
              exact (ha2.updN Ra).sq
            · subst hP
              rw [List.getElem?_map, List.getElem?_map] at hi
              cases el : pl[i]? with
              | none =>
                rw [el] at hi
                cases hi
              | some l =>
                rw [el] at hi
                have ex : x = .str (S l) := (Option.some.inj hi).symm
                subst ex
                have hl := (wall l).mpr (List.mem_of_getElem? el)
                refine ⟨rfl, _, rfl, _, rfl, fa, .int (dist ts u l), rfl, by rw [← dkm_get (f := fun x => V.int (dist ts u x)) hl]; exact DGet.k (k := Sum.inr (S l)) ((upd_ne Rf).trans L2'.far), _, upd_same, by rw [List.length_map, List.length_take]; exact sz_lt (by omega), ?_⟩
                rw [upd_upd, List.take_add_one, el, List.map_append]
                rfl
            · subst hP
              rw [List.length_map, List.length_map, List.take_length]
              have s3 := same_new (o := .lst (pl.map fun x => V.int (dist ts u x))) L2'.same nR
              have rows3 := rows.keep s3
              have DR : D ≠ R := ne_of_none (L2'.same _ _ rows.all) nR
              refine ⟨D, _, _, rfl, rfl, rows3.all, by rw [List.length_map, List.length_take]; exact sz_lt (by omega), ?_⟩
              have et : pl.take (i + 1) = pl.take i ++ [u] := by
                rw [List.take_add_one, el]
                rfl
              refine ⟨_, _, _, _, _, _, _, _, _, fun z => if z = u then R else ad z, rfl, same_put (SM.trans s3) nD, ?_⟩
              rw [et]
              refine ⟨⟨?_, fun z hz => ?_, fun z hz => ?_⟩, fun z hz => ?_⟩
              · rw [upd_same, List.map_append, List.map_singleton, if_pos rfl]
                refine congrArg (fun z => some (HO.lst (z ++ [V.ref R]))) (List.map_congr_left fun z hz => ?_)
                rw [if_neg (fun (e : z = u) => un (e ▸ hz))]
              · rcases List.mem_append.mp hz with y | y
                · rw [if_neg (fun (e : z = u) => un (e ▸ y)), upd_ne (rows.ne z y)]
                  exact rows3.each z y
                · rw [List.mem_singleton.mp y, if_pos rfl, upd_ne DR.symm]
                  exact upd_same
              · rcases List.mem_append.mp hz with y | y
                · show (if z = u then R else ad z) ≠ D
                  rw [if_neg (fun (e : z = u) => un (e ▸ y))]
                  exact rows.ne z y
                · show (if z = u then R else ad z) ≠ D
                  rw [if_pos (List.mem_singleton.mp y)]
                  exact DR.symm
              · rcases List.mem_append.mp hz with y | y
                · show H (if z = u then R else ad z) = none
                  rw [if_neg (fun (e : z = u) => un (e ▸ y))]
                  exact free z y
                · show H (if z = u then R else ad z) = none
                  rw [if_pos (List.mem_singleton.mp y)]
                  exact (SM.trans L2'.same).free nR
      · obtain ⟨x4, x5, x6, x7, x8, x9, x10, x11, x12, ad, rfl, SM, rows, free⟩ := hP
        rw [List.length_map, List.length_map, List.take_length] at rows free
        exact ⟨_, _, _, _, _, _, _, _, _, ad, rfl, SM, rows, free⟩
    · obtain ⟨x4, x5, x6, x7, x8, x9, x10, x11, x12, ad, rfl, SM, rows, free⟩ := hM
      exact ⟨_, rfl, q H' D ad SM nD rows free⟩
end
end Far

namespace Far
open PySem PySem.Spec PyProof.Rows L2
open C8 (pss_cut tCut)
open SX (S)
abbrev Tri := Int × Nm × Nm
def triD (x : Tri) : PyData := .tuple [.int x.1, .str (S x.2.1), .str (S x.2.2)]
/-- the pairs of place i with those behind it -/
noncomputable def rowP (pl : List Nm) (ts : List Tie) (i : Nat) : List Tri := (pl.drop (i + 1)).map fun y => (dist ts (pl.getD i []) y, pl.getD i [], y)
/-- those of the first n places -/
noncomputable def prs (pl : List Nm) (ts : List Tie) (n : Nat) : List Tri := (List.range n).flatMap (rowP pl ts)
/-- all pairs of two places, in order -/
noncomputable def pairsOf (pl : List Nm) (ts : List Tie) : List Tri := prs pl ts pl.length
theorem prs_succ (pl : List Nm) (ts : List Tie) (n : Nat) : prs pl ts (n + 1) = prs pl ts n ++ rowP pl ts n := by
  unfold prs
  rw [List.range_succ, List.flatMap_append, List.flatMap_singleton]
theorem rowP_len (pl : List Nm) (ts : List Tie) (i : Nat) : (rowP pl ts i).length = pl.length - (i + 1) := by
  unfold rowP
  rw [List.length_map, List.length_drop]
theorem prs_len (pl : List Nm) (ts : List Tie) : ∀ n, (prs pl ts n).length ≤ n * pl.length
  | 0 => Nat.zero_le _
  | n + 1 => by
    have ih := prs_len pl ts n
    rw [prs_succ, List.length_append, rowP_len, Nat.succ_mul]
    omega
theorem rowP_at {pl : List Nm} {ts : List Tie} {i j : Nat} {x y : Nm} (hx : pl[i]? = some x) (hy : pl[i + 1 + j]? = some y) : (rowP pl ts i)[j]? = some (dist ts x y, x, y) := by
  have ex : pl.getD i [] = x := by
    show (pl[i]?).getD [] = x
    rw [hx]
    rfl
  unfold rowP
  rw [ex, List.getElem?_map, List.getElem?_drop, hy]
  rfl
end Far

namespace Far
open PySem
open SX (S)
/-! ### ways cut, put together -/
theorem snoc_cons {α : Type} {p p1 p2 : List α} {w m : α} (h : p ++ [w] = p1 ++ m :: p2) : (p2 = [] ∧ p1 = p ∧ m = w) ∨ ∃ p3, p2 = p3 ++ [w] ∧ p = p1 ++ m :: p3 := by
  rcases List.eq_nil_or_concat p2 with e | ⟨p3, z, e⟩
  · subst e
    have := List.append_inj' h rfl
    exact .inl ⟨rfl, this.1.symm, by simpa using this.2.symm⟩
  · rw [e] at h ⊢
    have h' : p ++ [w] = (p1 ++ m :: p3) ++ [z] := by rw [h]; simp
    have := List.append_inj' h' rfl
    refine .inr ⟨p3, ?_, this.1⟩
    have : w = z := by simpa using this.2
    rw [this]
    simp
theorem Way.split {ts : List Tie} {u v : Nm} {p : List Nm} {L : Int} (h : Way ts u v p L) : ∀ {p1 p2 : List Nm} {m : Nm}, p = p1 ++ m :: p2 → ∃ L1 L2, Way ts u m (p1 ++ [m]) L1 ∧ Way ts m v (m :: p2) L2 ∧ L = L1 + L2 := by
  induction h with
  | nil =>
    intro p1 p2 m e
    have h1 : p1 = [] ∧ m = u ∧ p2 = [] := by
      cases p1 with
      | nil =>
        have := List.cons.inj e
        exact ⟨rfl, this.1.symm, this.2.symm⟩
      | cons a r =>
        have := congrArg List.length e
        simp at this
    obtain ⟨rfl, rfl, rfl⟩ := h1
    exact ⟨0, 0, .nil, .nil, by omega⟩
  | @snoc v w p L k h1 ha hn ih =>
    intro p1 p2 m e
    rcases snoc_cons e with ⟨rfl, rfl, rfl⟩ | ⟨p3, rfl, rfl⟩
    · exact ⟨L + k, 0, .snoc h1 ha hn, .nil, by omega⟩
    · obtain ⟨L1, L2, w1, w2, el⟩ := ih rfl
      exact ⟨L1, L2 + k, w1, .snoc w2 ha (fun z => hn (List.mem_append_right _ z)), by omega⟩
theorem Way.join {ts : List Tie} {u m v : Nm} {p1 q : List Nm} {L1 L2 : Int} (h1 : Way ts u m (p1 ++ [m]) L1) (h2 : Way ts m v q L2) (d : ∀ y ∈ q, y ∉ p1) : Way ts u v (p1 ++ q) (L1 + L2) := by
  induction h2 with
  | nil => simpa using h1
  | @snoc v w q L k h ha hn ih =>
    have := Way.snoc (ih fun y hy => d y (List.mem_append_left _ hy)) ha (w := w) (fun z => by
      rcases List.mem_append.mp z with z | z
      · exact d w (by simp) z
      · exact hn z)
    rw [List.append_assoc] at this
    rw [← Int.add_assoc]
    exact this
theorem first_in (q : List Nm) : ∀ {p : List Nm}, (∃ y ∈ p, y ∈ q) → ∃ A m B, p = A ++ m :: B ∧ m ∈ q ∧ ∀ y ∈ A, y ∉ q
  | [], h => by simp at h
  | a :: r, h => by
    by_cases e : a ∈ q
    · exact ⟨[], a, r, rfl, e, by simp⟩
    · obtain ⟨y, hy, hq⟩ := h
      rcases List.mem_cons.mp hy with z | z
      · exact absurd (z ▸ hq) e
      · obtain ⟨A, m, B, e1, e2, e3⟩ := first_in q ⟨y, z, hq⟩
        refine ⟨a :: A, m, B, by rw [e1]; rfl, e2, fun y hy => ?_⟩
        rcases List.mem_cons.mp hy with z | z
        · exact z ▸ e
        · exact e3 y z
theorem last_of {p : List Nm} {x : Nm} {A B : List Nm} {m : Nm} (h : p ++ [x] = A ++ m :: B) : (B = [] ∧ m = x) ∨ x ∈ B := by
  rcases snoc_cons h with ⟨e, _, em⟩ | ⟨p3, e, _⟩
  · exact .inl ⟨e, em⟩
  · exact .inr (by rw [e]; simp)
/-- the place where three ways meet -/
theorem IsTree.median {pl : List Nm} {ts : List Tie} (h : IsTree pl ts) {u v x : Nm} (hu : u ∈ pl) (hv : v ∈ pl) (hx : x ∈ pl) : ∃ (m : Nm) (A B C : List Nm) (d : Int), path ts u x = A ++ m :: B ∧ path ts x v = B.reverse ++ m :: C ∧ path ts u v = A ++ m :: C ∧
    (∀ y ∈ A, y ∉ path ts x v) ∧ dist ts u x + dist ts x v = dist ts u v + 2 * d ∧ 0 ≤ d ∧ (d = 0 ↔ B = []) := by
  have wp := h.the_way hu hx
  have wq := h.the_way hx hv
  obtain ⟨A, m, B, ep, mq, dA⟩ := first_in (path ts x v) ⟨x, wp.mem, by
    obtain ⟨r, e⟩ := wq.first
    rw [e]
    simp⟩
  obtain ⟨B', C, eq⟩ := List.append_of_mem mq
  obtain ⟨L1, L2, w1, w2, el⟩ := wp.split ep
  obtain ⟨L3, L4, w3, w4, el2⟩ := wq.split eq
  have wr := w2.rev
  rw [List.reverse_cons] at wr
  obtain ⟨eb, e23⟩ := h.one_way w3 wr
  have eb' : B' = B.reverse := (List.append_inj' eb rfl).1
  subst eb'
  have wj := w1.join w4 (fun y hy z => dA y z (by rw [eq]; exact List.mem_append_right _ hy))
  obtain ⟨f1, f2⟩ := h.is_way wj
  obtain ⟨n0, n1⟩ := w2.nonneg (fun e he => (h.ties e he).2.2.1)
  refine ⟨m, A, B, C, L2, ep, eq, f1, dA, by omega, n0, ?_, fun e => ?_⟩
  · intro e
    rw [List.length_cons] at n1
    exact List.eq_nil_of_length_eq_zero (by omega)
  · subst e
    obtain ⟨r, er⟩ := w2.last
    have em : x = m := by
      cases r with
      | nil => exact (List.cons.inj er).1.symm
      | cons a r =>
        have := congrArg List.length er
        simp at this
    subst em
    exact (h.one_way w2 .nil).2
/-- over a third place no way is shorter; just as long where it is on the way -/
theorem IsTree.over {pl : List Nm} {ts : List Tie} (h : IsTree pl ts) {u v x : Nm} (hu : u ∈ pl) (hv : v ∈ pl) (hx : x ∈ pl) : dist ts u v ≤ dist ts u x + dist ts x v ∧ (dist ts u x + dist ts x v = dist ts u v ↔ x ∈ path ts u v) ∧
    ∃ m, (path ts u v).filter (fun y => decide (y ∈ path ts u x) && decide (y ∈ path ts x v)) = [m] := by
  obtain ⟨m, A, B, C, d, e1, e2, e3, dA, ed, d0, db⟩ := h.median hu hv hx
  have np := (h.the_way hu hx).nodup
  have nq := (h.the_way hx hv).nodup
  obtain ⟨r, er⟩ := (h.the_way hu hx).last
  obtain ⟨t, et⟩ := (h.the_way hx hv).first
  rw [e1] at np er
  rw [e2] at nq et dA
  have qd := List.nodup_append.mp nq
  have pd := List.nodup_append.mp np
  refine ⟨by omega, ⟨fun e => ?_, fun e => ?_⟩, m, ?_⟩
  · have b0 := db.mp (by omega)
    subst b0
    rcases last_of er.symm with ⟨_, em⟩ | z
    · rw [e3, ← em]
      simp
    · cases z
  · rcases last_of er.symm with ⟨b0, _⟩ | z
    · have := db.mpr b0
      omega
    · exfalso
      rw [e3] at e
      rcases List.mem_append.mp e with q | q
      · exact pd.2.2 x q x (List.mem_cons_of_mem _ z) rfl
      · rcases List.mem_cons.mp q with q | q
        · exact (List.nodup_cons.mp pd.2.1).1 (q ▸ z)
        · have : x ∈ B.reverse := List.mem_reverse.mpr z
          exact qd.2.2 x this x (List.mem_cons_of_mem _ q) rfl
  · rw [e3, e1, e2, List.filter_append]
    have fA : A.filter (fun y => decide (y ∈ A ++ m :: B) && decide (y ∈ B.reverse ++ m :: C)) = [] := by
      refine List.filter_eq_nil_iff.mpr fun y hy => ?_
      simp only [Bool.and_eq_true, decide_eq_true_eq, not_and]
      exact fun _ => dA y hy
    have fC : C.filter (fun y => decide (y ∈ A ++ m :: B) && decide (y ∈ B.reverse ++ m :: C)) = [] := by
      refine List.filter_eq_nil_iff.mpr fun y hy => ?_
      simp only [Bool.and_eq_true, decide_eq_true_eq, not_and]
      intro z _
      rcases List.mem_append.mp z with z | z
      · exact dA y z (List.mem_append_right _ (List.mem_cons_of_mem _ hy))
      · rcases List.mem_cons.mp z with z | z
        · exact (List.nodup_cons.mp qd.2.1).1 (z ▸ hy)
        · exact qd.2.2 y (List.mem_reverse.mpr z) y (List.mem_cons_of_mem _ hy) rfl
    rw [fA, List.filter_cons, if_pos (by simp), fC]
    rfl
/-- two beside one another -/
theorem Way.two {ts : List Tie} {u v : Nm} {k : Int} (h : Adj ts u v k) (ne : v ≠ u) : Way ts u v [u, v] k := by
  have := Way.snoc (ts := ts) (u := u) .nil h (by simpa using ne)
  simpa using this
theorem Grown.adj_ne {os : List Nm} {es : List Tie} (g : Grown os es) : ∀ {u v : Nm} {k : Int}, Adj es u v k → v ≠ u := by
  induction g with
  | one a =>
    intro u v k h
    rcases h with h | h <;> cases h
  | @leaf os es a b k0 e0 g ha hbn he k1 k2 ih =>
    intro u v k h
    have hb : ∀ e ∈ es, e.1 ≠ b ∧ e.2.1 ≠ b := fun e hm => by
      obtain ⟨i1, i2, _⟩ := g.ties e hm
      exact ⟨fun z => hbn (z ▸ i1), fun z => hbn (z ▸ i2)⟩
    have ab : a ≠ b := fun z => hbn (z ▸ ha)
    rcases adj_new hb ab he h with ⟨h, _, _⟩ | ⟨e1, e2, _⟩ | ⟨e1, e2, _⟩
    · exact ih h
    · rw [e1, e2]
      exact Ne.symm ab
    · rw [e1, e2]
      exact ab
theorem IsTree.adj_ne {pl : List Nm} {ts : List Tie} (h : IsTree pl ts) {u v : Nm} {k : Int} (a : Adj ts u v k) : v ≠ u := by
  obtain ⟨os, es, g, _, p2⟩ := h
  exact g.adj_ne (a.perm p2)
theorem IsTree.adj_one {pl : List Nm} {ts : List Tie} (h : IsTree pl ts) {u v : Nm} {k l : Int} (a : Adj ts u v k) (b : Adj ts u v l) : k = l := (h.one_way (Way.two a (h.adj_ne a)) (Way.two b (h.adj_ne b))).2
/-- the ties of a way -/
theorem Way.hops {ts : List Tie} {u v : Nm} {p : List Nm} {L : Int} (h : Way ts u v p L) : ∃ ks : List Int, ks.length + 1 = p.length ∧ ks.sum = L ∧ ∀ (i : Nat) (x y : Nm), p[i]? = some x → p[i + 1]? = some y → ∃ k, ks[i]? = some k ∧ Adj ts x y k := by
  induction h with
  | nil => exact ⟨[], rfl, rfl, fun i x y _ e => by simp at e⟩
  | @snoc v w p L k h ha hn ih =>
    obtain ⟨ks, e1, e2, e3⟩ := ih
    refine ⟨ks ++ [k], by simp [e1], by simp [e2], fun i x y ex ey => ?_⟩
    by_cases lt : i + 1 < p.length
    · rw [List.getElem?_append_left (by omega)] at ex
      rw [List.getElem?_append_left lt] at ey
      obtain ⟨k', f1, f2⟩ := e3 i x y ex ey
      exact ⟨k', by rw [List.getElem?_append_left (by omega)]; exact f1, f2⟩
    · have ei : i + 1 = p.length := by
        have := (List.getElem?_eq_some_iff.mp ey).1
        simp at this
        omega
      rw [List.getElem?_append_left (by omega)] at ex
      rw [ei, List.getElem?_append_right (by omega)] at ey
      simp at ey
      obtain ⟨q, eq⟩ := h.last
      rw [eq] at ex ei
      rw [List.length_append, List.length_singleton] at ei
      have ei' : i = q.length := by omega
      rw [ei', List.getElem?_append_right (by omega)] at ex
      simp at ex
      rw [← ex, ← ey]
      refine ⟨k, ?_, ha⟩
      have : ks.length = i := by
        rw [eq, List.length_append, List.length_singleton] at e1
        omega
      rw [← this]
      simp
end Far


namespace Far
open PySem PySem.Spec PyProof.Rows L2
open C8 (pss_cut tCut)
open SX (S)
/-! ### the greatest and the least of whole numbers -/
def mxI : List Int → Int
  | [] => 0
  | x :: r => max x (mxI r)
def mxG : List Int → Int
  | [] => 0
  | [x] => x
  | x :: y :: r => max x (mxG (y :: r))
def mnG : List Int → Int
  | [] => 0
  | [x] => x
  | x :: y :: r => min x (mnG (y :: r))
theorem mxG_in : ∀ {l : List Int}, l ≠ [] → mxG l ∈ l ∧ ∀ y ∈ l, y ≤ mxG l
  | [], h => absurd rfl h
  | [x], _ => ⟨List.mem_singleton.mpr rfl, fun y hy => by rw [List.mem_singleton.mp hy]; exact Int.le_refl _⟩
  | x :: y :: r, _ => by
    obtain ⟨h1, h2⟩ := mxG_in (l := y :: r) (by intro z; cases z)
    show max x (mxG (y :: r)) ∈ _ ∧ _
    refine ⟨?_, fun z hz => ?_⟩
    · by_cases c : x ≤ mxG (y :: r)
      · rw [Int.max_eq_right c]
        exact List.mem_cons_of_mem _ h1
      · rw [Int.max_eq_left (by omega)]
        exact List.mem_cons_self ..
    · show z ≤ max x (mxG (y :: r))
      rcases List.mem_cons.mp hz with q | q
      · rw [q]
        exact Int.le_max_left _ _
      · exact Int.le_trans (h2 z q) (Int.le_max_right _ _)
theorem mnG_in : ∀ {l : List Int}, l ≠ [] → mnG l ∈ l ∧ ∀ y ∈ l, mnG l ≤ y
  | [], h => absurd rfl h
  | [x], _ => ⟨List.mem_singleton.mpr rfl, fun y hy => by rw [List.mem_singleton.mp hy]; exact Int.le_refl _⟩
  | x :: y :: r, _ => by
    obtain ⟨h1, h2⟩ := mnG_in (l := y :: r) (by intro z; cases z)
    show min x (mnG (y :: r)) ∈ _ ∧ _
    refine ⟨?_, fun z hz => ?_⟩
    · by_cases c : x ≤ mnG (y :: r)
      · rw [Int.min_eq_left c]
        exact List.mem_cons_self ..
      · rw [Int.min_eq_right (by omega)]
        exact List.mem_cons_of_mem _ h1
    · show min x (mnG (y :: r)) ≤ z
      rcases List.mem_cons.mp hz with q | q
      · rw [q]
        exact Int.min_le_left _ _
      · exact Int.le_trans (Int.min_le_right _ _) (h2 z q)
theorem mxG_is {l : List Int} {m : Int} (h1 : m ∈ l) (h2 : ∀ y ∈ l, y ≤ m) : m = mxG l := by
  obtain ⟨k1, k2⟩ := mxG_in (l := l) (by intro z; rw [z] at h1; cases h1)
  exact Int.le_antisymm (k2 m h1) (h2 _ k1)
theorem mnG_is {l : List Int} {m : Int} (h1 : m ∈ l) (h2 : ∀ y ∈ l, m ≤ y) : m = mnG l := by
  obtain ⟨k1, k2⟩ := mnG_in (l := l) (by intro z; rw [z] at h1; cases h1)
  exact Int.le_antisymm (h2 _ k1) (k2 m h1)
/-- how far a place is from its farthest -/
noncomputable def rch (pl : List Nm) (ts : List Tie) (u : Nm) : Int := mxG (pl.map fun x => dist ts u x)
theorem map_int (pl : List Nm) (f : Nm → Int) : (pl.map fun x => V.int (f x)) = (pl.map f).map V.int := by rw [List.map_map]; rfl
def thoseD (pl : List Nm) (f : Nm → Int) (n : Int) : PyData := .tuple ((pl.filter fun x => f x == n).map strD)
theorem dts_S (H : Hp) : ∀ pl : List Nm, DtAll H ((pl.map S).map V.str) (pl.map strD)
  | [] => .nil
  | x :: r => .cons (.str _) (dts_S H r)
theorem dts_I (H : Hp) : ∀ ns : List Int, DtAll H (ns.map V.int) (ns.map PyData.int)
  | [] => .nil
  | x :: r => .cons (.int _) (dts_I H r)
theorem take_snoc_filter {pl : List Nm} {f : Nm → Int} {n : Int} {i : Nat} {x : Nm} (h : pl.take (i + 1) = pl.take i ++ [x]) : (pl.take (i + 1)).filter (fun x => f x == n) = (pl.take i).filter (fun x => f x == n) ++ (if f x = n then [x] else []) := by
  rw [h, List.filter_append]
  by_cases c : f x = n
  · rw [if_pos c, List.filter_cons, if_pos (by simp [c])]
    rfl
  · rw [if_neg c, List.filter_cons, if_neg (by simp [c])]
    rfl
end Far


namespace Far
open PySem PySem.Spec PyProof.Rows L2
open SX (S)
/-! ### along a way the lengths rise -/
theorem Way.rising {pl : List Nm} {ts : List Tie} (F : IsTree pl ts) {u v : Nm} {p : List Nm} {L : Int} (h : Way ts u v p L) : (p.map (dist ts u)).Pairwise (· < ·) ∧ ∀ y ∈ p, dist ts u y ≤ L := by
  induction h with
  | nil =>
    refine ⟨by simp, fun y hy => ?_⟩
    rw [List.mem_singleton.mp hy, (F.dist_self u).1]
    exact Int.le_refl _
  | @snoc v w p L k hw ha hn ih =>
    have hk : 1 ≤ k := ha.elim (fun z => (F.ties _ z).2.2.1) fun z => (F.ties _ z).2.2.1
    have ew : dist ts u w = L + k := (F.is_way (Way.snoc hw ha hn)).2
    refine ⟨?_, fun y hy => ?_⟩
    · rw [List.map_append, List.pairwise_append]
      refine ⟨ih.1, by simp, fun a ha' b hb => ?_⟩
      obtain ⟨y, hy, rfl⟩ := List.mem_map.mp ha'
      have hb : b = dist ts u w := by simpa using hb
      rw [hb, ew]
      have := ih.2 y hy
      omega
    · rcases List.mem_append.mp hy with z | z
      · have := ih.2 y z
        omega
      · rw [List.mem_singleton.mp z, ew]
        exact Int.le_refl _
def cutIx (g : List Int) (W : Int) : Nat := (g.filter fun z => decide (2 * z < W)).length
theorem cutIx_iff {W : Int} : ∀ {g : List Int}, g.Pairwise (· < ·) → ∀ (i : Nat) (h : i < g.length), 2 * g[i] < W ↔ i < cutIx g W
  | [], _, i, h => absurd h (Nat.not_lt_zero _)
  | a :: r, hp, i, h => by
    obtain ⟨h1, h2⟩ := List.pairwise_cons.mp hp
    by_cases c : 2 * a < W
    · have e : cutIx (a :: r) W = cutIx r W + 1 := by
        unfold cutIx
        rw [List.filter_cons, if_pos (by simpa using c)]
        rfl
      rw [e]
      cases i with
      | zero => exact ⟨fun _ => Nat.succ_pos _, fun _ => c⟩
      | succ i =>
        have := cutIx_iff (W := W) h2 i (Nat.lt_of_succ_lt_succ h)
        show 2 * r[i]'(Nat.lt_of_succ_lt_succ h) < W ↔ _
        rw [this]
        omega
    · have hr : ∀ z ∈ r, ¬ 2 * z < W := fun z hz => by
        have := h1 z hz
        omega
      have e : cutIx (a :: r) W = 0 := by
        unfold cutIx
        rw [List.filter_cons, if_neg (by simpa using c), List.filter_eq_nil_iff.mpr (fun z hz => by simpa using hr z hz)]
        rfl
      rw [e]
      cases i with
      | zero => exact ⟨fun z => absurd z c, fun z => absurd z (Nat.lt_irrefl _)⟩
      | succ i => exact ⟨fun z => absurd z (hr _ (List.getElem_mem _)), fun z => absurd z (Nat.not_lt_zero _)⟩
/-! ### halves -/
def halfD (n : Int) : PyData := if n % 2 = 0 then .tuple [.int (n / 2), .int 1] else .tuple [.int n, .int 2]
theorem gcd_two (n : Int) : ((Nat.gcd n.natAbs (2 : Int).natAbs : Nat) : Int) = if n % 2 = 0 then 2 else 1 := by
  show ((Nat.gcd n.natAbs 2 : Nat) : Int) = _
  by_cases c : n % 2 = 0
  · rw [if_pos c, Nat.gcd_eq_right (by omega)]
    rfl
  · rw [if_neg c]
    have h1 : n.natAbs % 2 = 1 := by omega
    have : Nat.gcd n.natAbs 2 = 1 := by
      rw [Nat.gcd_comm, Nat.gcd_rec, h1]
      rfl
    rw [this]
    rfl
/-! ### the middle of the way between two places -/
noncomputable def goneOf (ts : List Tie) (u x : Nm) : List Int := (path ts u x).map (dist ts u)
noncomputable def midK (ts : List Tie) (u x : Nm) : Nat := cutIx (goneOf ts u x) (dist ts u x)
noncomputable def hi (ts : List Tie) (u x : Nm) : Nm := (path ts u x).getD (midK ts u x) []
noncomputable def lo (ts : List Tie) (u x : Nm) : Nm := (path ts u x).getD (midK ts u x - 1) []
/-- the point, and the half -/
noncomputable def pointD (pl : List Nm) (ts : List Tie) (u x : Nm) : PyData :=
  if 2 * dist ts u (hi ts u x) = dist ts u x then .tuple [strD (hi ts u x), strD (hi ts u x), .tuple [.int 0, .int 1]]
  else if pl.idxOf (lo ts u x) < pl.idxOf (hi ts u x) then .tuple [strD (lo ts u x), strD (hi ts u x), halfD (dist ts u x - 2 * dist ts u (lo ts u x))]
  else .tuple [strD (hi ts u x), strD (lo ts u x), halfD (2 * dist ts u (hi ts u x) - dist ts u x)]
structure MidF (pl : List Nm) (ts : List Tie) (u x : Nm) : Prop where
  kl : midK ts u x < (path ts u x).length
  hiE : (path ts u x)[midK ts u x]? = some (hi ts u x)
  hiM : hi ts u x ∈ path ts u x
  ge : dist ts u x ≤ 2 * dist ts u (hi ts u x)
  loE : 2 * dist ts u (hi ts u x) ≠ dist ts u x → 1 ≤ midK ts u x ∧ (path ts u x)[midK ts u x - 1]? = some (lo ts u x) ∧ lo ts u x ∈ path ts u x ∧ 2 * dist ts u (lo ts u x) < dist ts u x
  only : ∀ y ∈ path ts u x, 2 * dist ts u y = dist ts u x → y = hi ts u x
  low : ∀ y ∈ path ts u x, 2 * dist ts u y < dist ts u x → dist ts u y ≤ dist ts u (lo ts u x) ∧ (dist ts u y = dist ts u (lo ts u x) → y = lo ts u x)
  high : ∀ y ∈ path ts u x, dist ts u x < 2 * dist ts u y → dist ts u (hi ts u x) ≤ dist ts u y ∧ (dist ts u y = dist ts u (hi ts u x) → y = hi ts u x)
theorem mid_facts {pl : List Nm} {ts : List Tie} (F : IsTree pl ts) {u x : Nm} (hu : u ∈ pl) (hx : x ∈ pl) : MidF pl ts u x := by
  have w := F.the_way hu hx
  have rise := (w.rising F).1
  have iff := fun i h => cutIx_iff (W := dist ts u x) rise i h
  have gl : ((path ts u x).map (dist ts u)).length = (path ts u x).length := List.length_map _
  have g_at : ∀ (i : Nat) (h : i < (path ts u x).length), ((path ts u x).map (dist ts u))[i]'(by rw [gl]; exact h) = dist ts u ((path ts u x)[i]) := fun i h => List.getElem_map _
  have hk : midK ts u x = cutIx ((path ts u x).map (dist ts u)) (dist ts u x) := rfl
  obtain ⟨q, el⟩ := w.last
  obtain ⟨q', ef⟩ := w.first
  have d0 := (F.dist_self u).1
  have nn := (Way.nonneg (fun e he => (F.ties e he).2.2.1) w).1
  have plen : (path ts u x).length = q.length + 1 := by rw [el]; simp
  have plast : (path ts u x)[q.length]'(by omega) = x := by
    simp [el]
  have pfirst : (path ts u x)[0]'(by omega) = u := by
    simp [ef]
  have kl : midK ts u x < (path ts u x).length := by
    have h := iff q.length (by rw [gl]; omega)
    rw [g_at _ (by omega), plast] at h
    rw [hk]
    have : ¬ q.length < cutIx ((path ts u x).map (dist ts u)) (dist ts u x) := fun z => by
      have := h.mpr z
      omega
    omega
  have inj : ∀ (i j : Nat) (hi : i < (path ts u x).length) (hj : j < (path ts u x).length), i < j → dist ts u ((path ts u x)[i]) < dist ts u ((path ts u x)[j]) := fun i j hi hj lt => by
    have := List.pairwise_iff_getElem.mp rise i j (by rw [gl]; exact hi) (by rw [gl]; exact hj) lt
    rwa [g_at i hi, g_at j hj] at this
  have iff' : ∀ (i : Nat) (h : i < (path ts u x).length), 2 * dist ts u ((path ts u x)[i]) < dist ts u x ↔ i < midK ts u x := fun i h => by
    have := iff i (by rw [gl]; exact h)
    rwa [g_at i h] at this
  have ehi : hi ts u x = (path ts u x)[midK ts u x] := by
    unfold hi
    simp [List.getD, kl]
  have ge : dist ts u x ≤ 2 * dist ts u (hi ts u x) := by
    rw [ehi]
    have := (iff' _ kl).mp
    by_cases c : 2 * dist ts u ((path ts u x)[midK ts u x]) < dist ts u x
    · exact absurd (this c) (Nat.lt_irrefl _)
    · omega
  have elo : lo ts u x = (path ts u x)[midK ts u x - 1]'(by omega) := by
    unfold lo
    simp [List.getD, show midK ts u x - 1 < (path ts u x).length by omega]
  refine ⟨kl, by rw [ehi]; exact List.getElem?_eq_getElem kl, by rw [ehi]; exact List.getElem_mem _, ge, fun ne => ?_, fun y hy e => ?_, fun y hy lt => ?_, fun y hy lt => ?_⟩
  · have k1 : 1 ≤ midK ts u x := by
      by_cases c : 1 ≤ midK ts u x
      · exact c
      · exfalso
        have k0 : midK ts u x = 0 := by omega
        have e0 : hi ts u x = u := by
          rw [ehi]
          simp only [k0]
          exact pfirst
        rw [e0, d0] at ne ge
        omega
    refine ⟨k1, by rw [elo]; exact List.getElem?_eq_getElem _, by rw [elo]; exact List.getElem_mem _, ?_⟩
    rw [elo]
    exact (iff' _ (by omega)).mpr (by omega)
  · obtain ⟨i, hi', rfl⟩ := List.mem_iff_getElem.mp hy
    have ni : ¬ i < midK ts u x := fun z => by
      have := (iff' i hi').mpr z
      omega
    by_cases c : i = midK ts u x
    · subst c
      rw [ehi]
    · have := inj _ _ kl hi' (by omega)
      rw [← ehi] at this
      omega
  · obtain ⟨i, hi', rfl⟩ := List.mem_iff_getElem.mp hy
    have li := (iff' i hi').mp lt
    rw [elo]
    by_cases c : i = midK ts u x - 1
    · subst c
      exact ⟨Int.le_refl _, fun _ => rfl⟩
    · have := inj i (midK ts u x - 1) hi' (by omega) (by omega)
      exact ⟨by omega, fun z => by omega⟩
  · obtain ⟨i, hi', rfl⟩ := List.mem_iff_getElem.mp hy
    have ni : ¬ i < midK ts u x := fun z => by
      have := (iff' i hi').mpr z
      omega
    rw [ehi]
    by_cases c : i = midK ts u x
    · subst c
      exact ⟨Int.le_refl _, fun _ => rfl⟩
    · have := inj _ _ kl hi' (by omega)
      exact ⟨by omega, fun z => by omega⟩
end Far

namespace Far
open PySem PySem.Spec PyProof.Rows L2
open C8 (pss_cut tCut)
open SX (S)
theorem pi_listK {X : Cx} {tg l : Expr} {tl : TE} {K : PySem.W.Frag} (hl : PE X l tl) (e : X.K = K := by rfl) : PI X tg l (iList K tl) := by
  subst e
  exact pi_list hl
/-- a walk of a comprehension over enumerate(list) -/
theorem enum_it {K : PySem.W.Frag} {a : Addr} {xs : List V} {g : TG} {tt : TT} {te : TE} {vs : List Nat} {σ : L2.St} {H1 : Hp} {D : Addr} {Qd : Hp → Prop} (Pv : Nat → Hp → Prop) (h0 : Pv 0 (upd H1 D (.lst []))) (hl : ∀ i H, Pv i H → SqL K H a xs)
    (hs : ∀ i x H T, xs[i]? = some x → Pv i H → H T = none → g (.ref T) (wipe σ vs) (upd H T (.tup [.int (i : Nat), x])) fun σ2 H2 => wipe σ2 vs = wipe σ vs ∧ tt σ2 H2 fun b H3 =>
      if b = true then te σ2 H3 fun y H4 => ∃ acc, H4 D = some (.lst acc) ∧ acc.length < sizeLine ∧ Pv (i + 1) (upd H4 D (.lst (acc ++ [y]))) else Pv (i + 1) H3) (hd : ∀ H, Pv xs.length H → Qd H) :
    ∃ W : Nat → Nat → Hp → Prop, (∃ m, W 0 m (upd H1 D (.lst []))) ∧ ∀ i m H, W i m H →
      ((Ite K a).stop i H ∧ Qd H) ∨ ((Ite K a).go i H ∧ ∃ Nx : Hp → Prop, (∀ H', Nx H' → ∃ m', m' < m ∧ W (i + 1) m' H') ∧ ∀ v H', (Ite K a).yld i H v H' → g v (wipe σ vs) H' fun σ2 H2 => wipe σ2 vs = wipe σ vs ∧ tt σ2 H2 fun b H3 =>
        if b = true then te σ2 H3 fun y H4 => ∃ acc, H4 D = some (.lst acc) ∧ acc.length < sizeLine ∧ Nx (upd H4 D (.lst (acc ++ [y]))) else Nx H3) := by
  refine ⟨fun i m H => m = xs.length - i ∧ i ≤ xs.length ∧ Pv i H, ⟨xs.length, by simp, Nat.zero_le _, h0⟩, fun i m H ⟨em, hi, p⟩ => ?_⟩
  have q1 := hl i H p
  by_cases lt : i < xs.length
  · refine .inr ⟨⟨xs, xs[i], q1, by simp [lt]⟩, Pv (i + 1), fun H' p' => ⟨xs.length - (i + 1), by omega, rfl, lt, p'⟩, fun v H' ⟨T, x, ev, nT, eH, hx⟩ => ?_⟩
    rw [ev, eH]
    exact hs i x H T (hx xs q1) p nT
  · have e : i = xs.length := by omega
    rw [e] at p
    exact .inl ⟨⟨xs, q1, by omega⟩, hd H p⟩
def nV (ns : List Nat) : List V := ns.map fun (k : Nat) => V.int (k : Int)
theorem nV_snoc (ns : List Nat) (k : Nat) : nV (ns ++ [k]) = nV ns ++ [V.int (k : Int)] := by unfold nV; rw [List.map_append]; rfl
theorem nV_len (ns : List Nat) : (nV ns).length = ns.length := List.length_map _
theorem nV_at {ns : List Nat} {i : Nat} {v : V} (h : (nV ns)[i]? = some v) : ∃ k, ns[i]? = some k ∧ v = .int (k : Int) ∧ ns.take (i + 1) = ns.take i ++ [k] := by
  unfold nV at h
  rw [List.getElem?_map] at h
  cases el : ns[i]? with
  | none => rw [el] at h; cases h
  | some k => rw [el] at h; exact ⟨k, rfl, (Option.some.inj h).symm, by rw [List.take_add_one, el]; rfl⟩
theorem rng_filt (P : Nat → Bool) (i : Nat) : (List.range (i + 1)).filter P = (List.range i).filter P ++ (if P i = true then [i] else []) := by
  rw [List.range_succ, List.filter_append]
  by_cases c : P i = true
  · rw [if_pos c, List.filter_cons, if_pos c]
    rfl
  · rw [if_neg c, List.filter_cons, if_neg c]
    rfl
theorem flt_snoc {α : Type} {l : List α} {P : α → Bool} {i : Nat} {x : α} (h : l.take (i + 1) = l.take i ++ [x]) : (l.take (i + 1)).filter P = (l.take i).filter P ++ (if P x = true then [x] else []) := by
  rw [h, List.filter_append]
  by_cases c : P x = true
  · rw [if_pos c, List.filter_cons, if_pos c]
    rfl
  · rw [if_neg c, List.filter_cons, if_neg c]
    rfl
/-- the first number below n of which P holds -/
theorem rng_first {P : Nat → Bool} : ∀ {n : Nat}, (∃ j, j < n ∧ P j = true) → ∃ b r, (List.range n).filter P = b :: r ∧ b < n ∧ P b = true ∧ ∀ i, i < b → P i = false
  | 0, ⟨j, hj, _⟩ => absurd hj (Nat.not_lt_zero _)
  | n + 1, ⟨j, hj, hp⟩ => by
    rw [rng_filt]
    by_cases c : ∃ j, j < n ∧ P j = true
    · obtain ⟨b, r, e, h1, h2, h3⟩ := rng_first c
      exact ⟨b, r ++ (if P n = true then [n] else []), by rw [e]; rfl, by omega, h2, h3⟩
    · have jn : j = n := by
        by_cases d : j < n
        · exact absurd ⟨j, d, hp⟩ c
        · omega
      subst jn
      have e0 : (List.range j).filter P = [] := List.filter_eq_nil_iff.mpr fun i hi z => c ⟨i, List.mem_range.mp hi, z⟩
      rw [e0, if_pos hp]
      refine ⟨j, [], rfl, Nat.lt_succ_self _, hp, fun i hi => ?_⟩
      cases h : P i with
      | false => rfl
      | true => exact absurd ⟨i, hi, h⟩ c
theorem flt_head {α : Type} {l : List α} {P : α → Bool} (h : ∃ x ∈ l, P x = true) : ∃ x r, l.filter P = x :: r ∧ x ∈ l ∧ P x = true := by
  obtain ⟨x, hx, hp⟩ := h
  have : x ∈ l.filter P := List.mem_filter.mpr ⟨hx, hp⟩
  cases e : l.filter P with
  | nil => rw [e] at this; cases this
  | cons a r =>
    have ha : a ∈ l.filter P := by rw [e]; exact List.mem_cons_self ..
    exact ⟨a, r, rfl, (List.mem_filter.mp ha).1, (List.mem_filter.mp ha).2⟩
abbrev s_law_half : Stmt := topS 22
abbrev N_law_half : List Str := ["number"]
theorem sc_law_half : FnScope N_law_half ["number"] (defScope s_law_half) := ⟨rfl, rfl, rfl, by decide +kernel, rfl, by decide +kernel, by decide +kernel⟩
section
variable {P : Program} {w : World} {K : PySem.W.Frag} {mg : Str → Option Value} {base : Heap}
def spLHalf : Sp := fun vs H Q _ => ∃ n : Int, vs = [.int n] ∧ ∀ (H' : Hp) (r : V), Same H H' → Dt H' r (halfD n) → Q r H'
theorem ok_lhalf {f : Addr} {fd : FuncData} (F : Fun K "_law_half" "_law_half" s_law_half f fd) : FnOk P w K mg base CX0 1 f fd ["number"] spLHalf := by
  refine F.ok sc_law_half (fun vs H Q E h => ?_) (fun cdv A outer s H vs Q E hr h => ?_)
  · obtain ⟨n, rfl, _⟩ := h
    rfl
  · obtain ⟨n, rfl, q⟩ := h
    refine ⟨_, (pss_cut (ps_if (pt_cmpR op_eq (pe_op op_mod (pv 0) pe_int) pe_int (nomark _))
        (pss_one (ps_ret (pe_tup (pa_cons (pe_op op_fdiv (pv 0) pe_int) (pa_cons pe_int pa_nil)))))
        pss_nil)
      (pss_one (ps_ret (pe_tup (pa_cons (pv 0) (pa_cons pe_int pa_nil)))))), ?_⟩
    refine ⟨fun σ' H' => σ' = [some (.int n)] ∧ H' = H ∧ n % 2 ≠ 0, ?_, fun σ' H' hM => ?_⟩
    · refine ⟨_, rfl, _, _, rfl, rfl, (by show (0 : Int) < 2; decide), rfl, _, rfl, ?_⟩
      refine ite2 (fun z => ?_) (fun z => ⟨rfl, rfl, fun k => z (decide_eq_true (congrArg V.int k))⟩)
      have z : n % 2 = 0 := V.int.inj (of_decide_eq_true z)
      refine ⟨_, rfl, _, _, rfl, rfl, ⟨by decide, by decide⟩, (by show 2 ≤ sizeLine; decide), fun r nr => q _ _ (same_new (Same.refl H) nr) ?_⟩
      unfold halfD
      rw [if_pos z]
      exact .tup upd_same (.cons (.int _) (.cons (.int _) .nil))
    · obtain ⟨rfl, rfl, z⟩ := hM
      refine ⟨_, rfl, (by show 2 ≤ sizeLine; decide), fun r nr => q _ _ (same_new (Same.refl _) nr) ?_⟩
      unfold halfD
      rw [if_neg z]
      exact .tup upd_same (.cons (.int _) (.cons (.int _) .nil))
end
end Far

namespace Far
/-- the length of a tie is how far its ends are apart -/
theorem tie_len {pl : List Nm} {ts : List Tie} (F : IsTree pl ts) {a b : Nm} (ne : a ≠ b) {t : Tie} (m : t ∈ ts) (j : joins a b t = true) : dist ts a b = t.2.2 := by
  have hadj : Adj ts a b t.2.2 := by
    unfold joins at j
    have c4 := of_decide_eq_true j
    simp only [List.mem_cons, List.not_mem_nil, or_false] at c4
    obtain ⟨t1, t2, t3⟩ := t
    rcases c4 with e | e
    · have e1 : t1 = a := congrArg Prod.fst e
      have e2 : t2 = b := congrArg Prod.snd e
      subst e1 e2
      exact .inl m
    · have e1 : t1 = b := congrArg Prod.fst e
      have e2 : t2 = a := congrArg Prod.snd e
      subst e1 e2
      exact .inr m
  have w : Way ts a b ([a] ++ [b]) (0 + t.2.2) := .snoc .nil hadj (fun h => ne (List.mem_singleton.mp h).symm)
  rw [(F.is_way w).2, Int.zero_add]
/-- two ties of a tree that join the same two places are as long -/
theorem tie_one {pl : List Nm} {ts : List Tie} (F : IsTree pl ts) {a b : Nm} (ne : a ≠ b) {t u : Tie} (m : t ∈ ts) (m2 : u ∈ ts) (j : joins a b t = true) (j2 : joins a b u = true) : t.2.2 = u.2.2 :=
  (tie_len F ne m j).symm.trans (tie_len F ne m2 j2)
end Far

namespace Far
open PySem PySem.Spec PyProof.Rows L2
open C8 (pss_cut tCut)
open SX (S)
structure TxtM (mg : Str → Option Value) : Prop where
  len : mg "len" = none
  range : mg "range" = none
  max : mg "max" = none
  min : mg "min" = none
  enumerate : mg "enumerate" = none
  zip : mg "zip" = none
  sorted : mg "sorted" = none
  isinstance : mg "isinstance" = none
  bool : mg "bool" = none
abbrev cs_near : Scope := { kind := ScopeKind.function, names := [(Str.ofString ".0", NameKind.local), (Str.ofString "at", NameKind.local), (Str.ofString "max", NameKind.globalImplicit), (Str.ofString "begin", NameKind.cell), (Str.ofString "lengths", NameKind.cell), (Str.ofString "near", NameKind.cell)], isGenerator := false, isCoroutine := false }
abbrev cs_far : Scope := { kind := ScopeKind.function, names := [(Str.ofString ".0", NameKind.local), (Str.ofString "at", NameKind.local), (Str.ofString "min", NameKind.globalImplicit), (Str.ofString "begin", NameKind.cell), (Str.ofString "far", NameKind.cell), (Str.ofString "lengths", NameKind.cell)], isGenerator := false, isCoroutine := false }
abbrev s_law_amid : Stmt := topS 23
abbrev N_law_amid : List Str := ["tree", "lengths", "begin", "end", "places", "most", "at", "on_way", "near", "far", "low", "high", "part", "one"]
theorem sc_law_amid : FnScope N_law_amid ["tree", "lengths", "begin", "end"] (defScope s_law_amid) := ⟨rfl, rfl, rfl, by decide +kernel, rfl, by decide +kernel, by decide +kernel⟩
section
variable {P : Program} {w : World} {K : PySem.W.Frag} {mg : Str → Option Value} {base : Heap}
def spAmid : Sp := fun vs H Q _ => ∃ (v : V) (pl : List Nm) (ts : List Tie) (L : Addr) (ad : Nm → Addr) (bi ei : Nat), vs = [v, .ref L, .int (bi : Nat), .int (ei : Nat)] ∧ Dt H v (treeD pl ts) ∧ Fine pl ts ∧ RowsAt H L pl pl ts ad ∧ bi < pl.length ∧ ei < pl.length ∧ ∀ (H' : Hp) (r : V), Same H H' → Dt H' r (pointD pl ts (pl.getD bi []) (pl.getD ei [])) → Q r H'
theorem ok_amid {f : Addr} {fd : FuncData} (F : Fun K "_law_amid" "_law_amid" s_law_amid f fd) (T : TxtM mg) (C_law_half : Cal P w K mg base 1 "_law_half" spLHalf) : FnOk P w K mg base CX0 2 f fd ["tree", "lengths", "begin", "end"] spAmid := by
  refine F.ok sc_law_amid (fun vs H Q E h => ?_) (fun cdv A outer s H'' vs Q E hr h => ?_)
  · obtain ⟨v, pl, ts, L, ad, bi, ei, rfl, _⟩ := h
    rfl
  · obtain ⟨v, pl, ts, L, ad, bi, ei, rfl, hd, fine, rows2, bl, el', q⟩ := h
    obtain ⟨t, a, b, vs, rfl, ht, ha, hb, hA⟩ := dt_tree hd
    have pl1 := fine.len
    have nd := fine.tree.nodup
    have sqn : ((pl.map S).map V.str).length = pl.length := by rw [List.length_map, List.length_map]
    have getk : ∀ {k : Nat}, k < pl.length → pl[k]? = some (pl.getD k []) := fun {k} h => by simp [List.getD, h]
    have memk : ∀ {k : Nat}, k < pl.length → pl.getD k [] ∈ pl := fun h => List.mem_of_getElem? (getk h)
    have hu := memk bl
    have gu := getk bl
    generalize hue : pl.getD bi [] = u at hu gu q
    have hx := memk el'
    have gx := getk el'
    generalize hxe : pl.getD ei [] = x at hx gx q
    obtain ⟨most, ep⟩ : ∃ m, dist ts u x = m := ⟨_, rfl⟩
    have S3 := Same.refl H''
    refine ⟨_, (pss_cons (ps_set (i := 4) sc_law_amid.nd rfl (.inl rfl) (pe_ix ix_tup (pv 0) pe_int (fun _ _ => rfl)))
      (pss_cons (ps_set (i := 5) sc_law_amid.nd rfl (.inr rfl) (pe_ix ix_list (pe_ix ix_list (pv 1) (pv 2) (fun _ _ => rfl)) (pv 3) (fun _ _ => rfl)))
      (pss_cons (ps_setLc (i := 7) (own := [("at", 6)]) (g := gName 6)  rfl sc_law_amid.nd rfl rfl (sw_true rfl rfl rfl (by decide +kernel)) (pi_range1 (by rfl) T.range (pa_cons (pe_callB call_len_seq (by rfl) T.len bt_len (pa_cons (pv 4) pa_nil)) pa_nil)) (blkOk_by (N := N_law_amid) (sc := defScope s_law_amid) (by decide +kernel)) (fun _ _ _ _ _ => pg_name (i := 6) sc_law_amid.nd rfl (Or.inl rfl)) (fun _ _ _ _ _ => pts_one (pt_cmpR op_eq (pe_op op_add (pe_ix (ixl (K := K)) (pe_ix (ixl (K := K)) (pv 1) (pv 2) (fun _ _ => rfl)) (pv 6) (fun _ _ => rfl)) (pe_ix (ixl (K := K)) (pe_ix (ixl (K := K)) (pv 1) (pv 6) (fun _ _ => rfl)) (pv 3) (fun _ _ => rfl))) (pv 5) (nomark _))) (fun _ _ _ _ _ => (pv 6)))
      (pss_cut (ps_for PassesOwn.never rfl (pi_list (pv 7)) (pg_name (i := 6) sc_law_amid.nd rfl (.inl rfl))
        (pss_one (ps_if (pt_cmpR op_eq (pe_op op_mul pe_int (pe_ix ix_list (pe_ix ix_list (pv 1) (pv 2) (fun _ _ => rfl)) (pv 6) (fun _ _ => rfl))) (pv 5) (nomark _))
          (pss_one (ps_ret (pe_tup (pa_cons (pe_ix ix_tup (pv 4) (pv 6) (fun _ _ => rfl)) (pa_cons (pe_ix ix_tup (pv 4) (pv 6) (fun _ _ => rfl)) (pa_cons (pe_tup (pa_cons pe_int (pa_cons pe_int pa_nil))) pa_nil))))))
          pss_nil)))
      (pss_cons (ps_set (i := 8) sc_law_amid.nd rfl (.inr rfl) (pe_lc (own := [("at", 6)]) (g := gName 6)  rfl sc_law_amid.nd (pi_list (pv 7)) (blkOk_by (N := N_law_amid) (sc := defScope s_law_amid) (by decide +kernel)) (fun _ _ _ _ _ => pg_name (i := 6) sc_law_amid.nd rfl (Or.inl rfl)) (fun _ _ _ _ _ => pts_one (pt_cmpR op_lt (pe_op op_mul pe_int (pe_ix (ixl (K := K)) (pe_ix (ixl (K := K)) (pv 1) (pv 2) (fun _ _ => rfl)) (pv 6) (fun _ _ => rfl))) (pv 5) (nomark _))) (fun _ _ _ _ _ => (pv 6))))
      (pss_cons (ps_set (i := 9) sc_law_amid.nd rfl (.inr rfl) (pe_lc (own := [("at", 6)]) (g := gName 6)  rfl sc_law_amid.nd (pi_list (pv 7)) (blkOk_by (N := N_law_amid) (sc := defScope s_law_amid) (by decide +kernel)) (fun _ _ _ _ _ => pg_name (i := 6) sc_law_amid.nd rfl (Or.inl rfl)) (fun _ _ _ _ _ => pts_one (pt_cmpR op_gt (pe_op op_mul pe_int (pe_ix (ixl (K := K)) (pe_ix (ixl (K := K)) (pv 1) (pv 2) (fun _ _ => rfl)) (pv 6) (fun _ _ => rfl))) (pv 5) (nomark _))) (fun _ _ _ _ _ => (pv 6))))
      (pss_cons (ps_set (i := 10) sc_law_amid.nd rfl (.inl rfl) (pe_ix ix_list (pe_lc (own := [("at", 6)]) (g := gName 6)  rfl sc_law_amid.nd (pi_list (pv 8)) (blkOk_by (N := N_law_amid) (sc := defScope s_law_amid) (by decide +kernel)) (fun _ _ _ _ _ => pg_name (i := 6) sc_law_amid.nd rfl (Or.inl rfl)) (fun _ _ _ _ _ => pts_one (pt_cmpR op_eq (pe_ix (ixl (K := K)) (pe_ix (ixl (K := K)) (pv 1) (pv 2) (fun _ _ => rfl)) (pv 6) (fun _ _ => rfl)) (pe_callB (cr_maxL (K := K) rfl) (by rfl) T.max bt_max (pa_cons (pe_lc (own := [("one", 13)]) (g := gName 13) (tt := tYes) rfl sc_law_amid.nd (pi_listK (K := K) (pv 8)) (blkOk_by (N := N_law_amid) (sc := cs_near) (by decide +kernel)) (fun _ _ _ _ _ => pg_name (i := 13) sc_law_amid.nd rfl (Or.inl rfl)) (fun _ _ _ _ _ => pts_nil) (fun _ _ _ _ _ => (pe_ix (ixl (K := K)) (pe_ix (ixl (K := K)) (pv 1) (pv 2) (fun _ _ => rfl)) (pv 13) (fun _ _ => rfl)))) pa_nil)) (nomark _))) (fun _ _ _ _ _ => (pv 6))) pe_int (fun _ _ => rfl)))
      (pss_cons (ps_set (i := 11) sc_law_amid.nd rfl (.inl rfl) (pe_ix ix_list (pe_lc (own := [("at", 6)]) (g := gName 6)  rfl sc_law_amid.nd (pi_list (pv 9)) (blkOk_by (N := N_law_amid) (sc := defScope s_law_amid) (by decide +kernel)) (fun _ _ _ _ _ => pg_name (i := 6) sc_law_amid.nd rfl (Or.inl rfl)) (fun _ _ _ _ _ => pts_one (pt_cmpR op_eq (pe_ix (ixl (K := K)) (pe_ix (ixl (K := K)) (pv 1) (pv 2) (fun _ _ => rfl)) (pv 6) (fun _ _ => rfl)) (pe_callB (cr_minL (K := K) rfl) (by rfl) T.min bt_min (pa_cons (pe_lc (own := [("one", 13)]) (g := gName 13) (tt := tYes) rfl sc_law_amid.nd (pi_listK (K := K) (pv 9)) (blkOk_by (N := N_law_amid) (sc := cs_far) (by decide +kernel)) (fun _ _ _ _ _ => pg_name (i := 13) sc_law_amid.nd rfl (Or.inl rfl)) (fun _ _ _ _ _ => pts_nil) (fun _ _ _ _ _ => (pe_ix (ixl (K := K)) (pe_ix (ixl (K := K)) (pv 1) (pv 2) (fun _ _ => rfl)) (pv 13) (fun _ _ => rfl)))) pa_nil)) (nomark _))) (fun _ _ _ _ _ => (pv 6))) pe_int (fun _ _ => rfl)))
      (pss_cons (ps_set (i := 12) sc_law_amid.nd rfl (.inl rfl) (pe_op op_sub (pv 5) (pe_op op_mul pe_int (pe_ix ix_list (pe_ix ix_list (pv 1) (pv 2) (fun _ _ => rfl)) (pv 10) (fun _ _ => rfl)))))
      (pss_cut (ps_if (pt_cmpR op_gt (pv 10) (pv 11) (nomark _))
        (pss_one (ps_par3 (i := 10) (j := 11) (l := 12) (by rfl) sc_law_amid.nd rfl rfl rfl (by decide) (by decide) (by decide) rfl rfl rfl (pa_cons (pv 11) (pa_cons (pv 10) (pa_cons (pe_op op_sub (pe_op op_mul pe_int (pe_ix ix_list (pe_ix ix_list (pv 1) (pv 2) (fun _ _ => rfl)) (pv 11) (fun _ _ => rfl))) (pv 5)) pa_nil))) rfl))
        pss_nil)
      (pss_one (ps_ret (pe_tup (pa_cons (pe_ix ix_tup (pv 4) (pv 10) (fun _ _ => rfl)) (pa_cons (pe_ix ix_tup (pv 4) (pv 11) (fun _ _ => rfl)) (pa_cons (pe_c C_law_half hr (by decide) rfl (pa_cons (pv 12) pa_nil)) pa_nil)))))))))))))))), ?_⟩
    refine ⟨_, rfl, t, _, 0, .ref a, rfl, rfl, SqT.of ht, atI_nat (j := 0) rfl, ?_⟩
    refine ⟨_, rfl, _, rfl, L, _, (bi : Int), .ref (ad u), rfl, rfl, SqL.of rows2.all, atI_nat (by rw [List.getElem?_map, gu]; rfl), _, rfl, ad u, _, (ei : Int), .int most, rfl, rfl, SqL.of (rows2.each u hu), atI_nat (by rw [List.getElem?_map, gx, ← ep]; rfl), ?_⟩
    have mf := mid_facts fine.tree hu hx
    have over := fun {y : Nm} (hy : y ∈ pl) => (fine.tree.over hu hx hy).2.1
    rw [ep] at over
    have rowU := fun {H' : Hp} (s : Same H'' H') => (rows2.keep s).each u hu
    have atB : atI (pl.map fun u => V.ref (ad u)) (bi : Int) = some (.ref (ad u)) := atI_nat (by rw [List.getElem?_map, gu]; rfl)
    have atK : ∀ {y : Nm} {k : Nat}, k < pl.length → atI (pl.map fun z => V.int (dist ts y z)) (k : Int) = some (.int (dist ts y (pl.getD k []))) := fun {y k} h => atI_nat (by rw [List.getElem?_map, getk h]; rfl)
    have atR : ∀ {k : Nat}, k < pl.length → atI (pl.map fun u => V.ref (ad u)) (k : Int) = some (.ref (ad (pl.getD k []))) := fun {k} h => atI_nat (by rw [List.getElem?_map, getk h]; rfl)
    have atE : ∀ {y : Nm}, atI (pl.map fun z => V.int (dist ts y z)) (ei : Int) = some (.int (dist ts y x)) := fun {y} => atI_nat (by rw [List.getElem?_map, gx]; rfl)
    have ep' : dist ts u x = most := ep
    have pin : ∀ y ∈ path ts u x, y ∈ pl := fun y hy => (fine.tree.the_way hu hx).inside (fun e he => ⟨(fine.tree.ties e he).1, (fine.tree.ties e he).2.1⟩) hu y hy
    have nth : ∀ {y : Nm}, y ∈ pl → ∃ k, k < pl.length ∧ pl.getD k [] = y := fun {y} hy => by
      obtain ⟨j, hj, ej⟩ := List.mem_iff_getElem.mp hy
      exact ⟨j, hj, by simp [List.getD, hj, ej]⟩
    have idx : ∀ {k : Nat}, k < pl.length → pl.idxOf (pl.getD k []) = k := fun {k} h => by
      have h1 := getk h
      have h2 : pl.idxOf (pl.getD k []) < pl.length := List.idxOf_lt_length_of_mem (memk h)
      have h3 : pl[pl.idxOf (pl.getD k [])] = pl.getD k [] := List.getElem_idxOf h2
      have h4 : pl[k] = pl.getD k [] := by simp [List.getD, h]
      exact (List.getElem_inj nd).mp (h3.trans h4.symm)
    have plS : ∀ {k : Nat}, k < pl.length → atI ((pl.map S).map V.str) (k : Int) = some (.str (S (pl.getD k []))) := fun {k} h => atI_nat (by rw [List.getElem?_map, List.getElem?_map, getk h]; rfl)
    refine ⟨_, rfl, a, _, rfl, .inr (ha.same S3).sq, _, rfl, by rw [sqn]; omega, by rw [sqn]; omega, fun C nC => ?_⟩
    refine lc_range (lo := 0) (n := (((((pl.map S).map V.str).length : Nat) : Int)).toNat) (fun i H4 => Same H'' H4 ∧ H4 C = some (.lst (nV ((List.range i).filter fun k => decide (dist ts u (pl.getD k []) + dist ts (pl.getD k []) x = most))))) ⟨same_new (Same.refl H'') nC, upd_same⟩ (fun i H4 hi hP => ?_) (fun H4 hP => ?_)
    · obtain ⟨SM, hC⟩ := hP
      rw [sqn] at hi
      have il : i < pl.length := by omega
      have rows3 := rows2.keep SM
      rw [Int.zero_add]
      refine ⟨rfl, _, rfl, _, rfl, L, _, (bi : Int), _, rfl, rfl, SqL.of rows3.all, atB, _, rfl, ad u, _, (i : Int), _, rfl, rfl, SqL.of (rowU SM), atK il, ?_⟩
      refine ⟨_, rfl, _, rfl, L, _, (i : Int), _, rfl, rfl, SqL.of rows3.all, atR il, _, rfl, ad (pl.getD i []), _, (ei : Int), _, rfl, rfl, SqL.of (rows3.each _ (memk il)), atE, _, _, rfl, rfl, _, rfl, rfl, _, rfl, ?_⟩
      rw [rng_filt]
      refine ite2 (fun z => ?_) (fun z => ?_)
      · have z : dist ts u (pl.getD i []) + dist ts (pl.getD i []) x = most := V.int.inj (of_decide_eq_true z)
        rw [if_pos (decide_eq_true z)]
        refine ⟨_, rfl, _, hC, ?_, same_put SM nC, by rw [upd_same, nV_snoc]⟩
        rw [nV_len]
        have := List.length_filter_le (fun k => decide (dist ts u (pl.getD k []) + dist ts (pl.getD k []) x = most)) (List.range i)
        rw [List.length_range] at this
        exact sz_lt (by omega)
      · have z : ¬ dist ts u (pl.getD i []) + dist ts (pl.getD i []) x = most := fun k => z (decide_eq_true (congrArg V.int k))
        rw [if_neg (by simpa using z), List.append_nil]
        exact ⟨SM, hC⟩
    · obtain ⟨SM, hC⟩ := hP
      have en : (((((pl.map S).map V.str).length : Nat) : Int)).toNat = pl.length := by rw [sqn]; omega
      rw [en] at hC
      have onm : ∀ k, k ∈ (List.range pl.length).filter (fun k => decide (dist ts u (pl.getD k []) + dist ts (pl.getD k []) x = most)) ↔ k < pl.length ∧ pl.getD k [] ∈ path ts u x := fun k => by
        rw [List.mem_filter, List.mem_range]
        constructor
        · rintro ⟨h1, h2⟩
          exact ⟨h1, (over (memk h1)).mp (of_decide_eq_true h2)⟩
        · rintro ⟨h1, h2⟩
          exact ⟨h1, decide_eq_true ((over (memk h1)).mpr h2)⟩
      have onl : ((List.range pl.length).filter (fun k => decide (dist ts u (pl.getD k []) + dist ts (pl.getD k []) x = most))).length ≤ 1000 := by
        have := List.length_filter_le (fun k => decide (dist ts u (pl.getD k []) + dist ts (pl.getD k []) x = most)) (List.range pl.length)
        rw [List.length_range] at this
        omega
      generalize (List.range pl.length).filter (fun k => decide (dist ts u (pl.getD k []) + dist ts (pl.getD k []) x = most)) = ons at hC onm onl
      have rows3 := rows2.keep SM
      have S4 := S3.trans SM
      clear rows2 rowU nC
      have rowU := fun {H' : Hp} (s : Same H4 H') => (rows3.keep s).each u hu
      refine ⟨fun σ5 H5 => ∃ x5, σ5 = [some (.ref t), some (.ref L), some (.int (bi : Nat)), some (.int (ei : Nat)), some (.ref a), some (.int most), x5, some (.ref C), none, none, none, none, none, none] ∧ Same H4 H5 ∧ ∀ k ∈ ons, 2 * dist ts u (pl.getD k []) ≠ most, ?_, fun σ5 H5 hM => ?_⟩
      · refine ⟨_, rfl, C, rfl, ⟨_, SqL.of hC⟩, for_list (K := K) (a := C) (xs := nV ons) (fun i σ5 H5 => ∃ x5, σ5 = [some (.ref t), some (.ref L), some (.int (bi : Nat)), some (.int (ei : Nat)), some (.ref a), some (.int most), x5, some (.ref C), none, none, none, none, none, none] ∧ Same H4 H5 ∧ ∀ k ∈ ons.take i, 2 * dist ts u (pl.getD k []) ≠ most) ⟨none, rfl, Same.refl _, fun k hk => by cases hk⟩ (fun i σ5 H5 _ hP => by obtain ⟨_, _, s, _⟩ := hP; exact SqL.of (s _ _ hC)) (fun i v σ5 H5 hi hP => ?_) (fun σ5 H5 hP => ?_)⟩
        · obtain ⟨x5, rfl, S5, no⟩ := hP
          obtain ⟨k, ek, rfl, et⟩ := nV_at hi
          obtain ⟨kl, kp⟩ := (onm k).mp (List.mem_of_getElem? ek)
          have rows4 := rows3.keep S5
          refine ⟨_, rfl, _, rfl, L, _, (bi : Int), _, rfl, rfl, SqL.of rows4.all, atB, _, rfl, ad u, _, (k : Int), _, rfl, rfl, SqL.of (rowU S5), atK kl, _, _, rfl, rfl, .inl ⟨by decide, by decide⟩, _, rfl, rfl, _, rfl, ?_⟩
          refine ite2 (fun z => ?_) (fun z => ?_)
          · have z : 2 * dist ts u (pl.getD k []) = most := V.int.inj (of_decide_eq_true z)
            have eh := mf.only _ kp (by rw [ep']; exact z)
            have S6 := S4.trans S5
            refine ⟨_, rfl, _, rfl, a, _, (k : Int), _, rfl, rfl, (ha.same S6).sq, plS kl, _, rfl, _, rfl, a, _, (k : Int), _, rfl, rfl, (ha.same S6).sq, plS kl, (by show 2 ≤ sizeLine; decide), fun t1 nt1 => ⟨(by show 3 ≤ sizeLine; decide), fun t2 nt2 => ?_⟩⟩
            refine q _ _ (same_new (same_new S6 nt1) nt2) ?_
            unfold pointD
            rw [← eh, if_pos (by rw [ep']; exact z)]
            exact .tup upd_same (.cons (.str _) (.cons (.str _) (.cons (.tup ((TK.new nt2).tup _ _ upd_same) (.cons (.int _) (.cons (.int _) .nil))) .nil)))
          · have z : ¬ 2 * dist ts u (pl.getD k []) = most := fun h => z (decide_eq_true (congrArg V.int h))
            refine ⟨_, rfl, S5, fun k' hk' => ?_⟩
            rw [et] at hk'
            rcases List.mem_append.mp hk' with h | h
            · exact no k' h
            · rw [List.mem_singleton.mp h]
              exact z
        · obtain ⟨x5, rfl, S5, no⟩ := hP
          rw [nV_len, List.take_length] at no
          exact ⟨x5, rfl, S5, no⟩
      · obtain ⟨x5, rfl, S5, no⟩ := hM
        have hC5 := S5 _ _ hC
        have rows4 := rows3.keep S5
        have S6 := S4.trans S5
        clear rowU
        have rowU := fun {H' : Hp} (s : Same H5 H') => (rows4.keep s).each u hu
        have hne : 2 * dist ts u (hi ts u x) ≠ dist ts u x := by
          obtain ⟨k, kl, ek⟩ := nth (pin _ mf.hiM)
          have := no k ((onm k).mpr ⟨kl, by rw [ek]; exact mf.hiM⟩)
          rw [ek] at this
          rw [ep']
          exact this
        obtain ⟨_, _, loM, loL⟩ := mf.loE hne
        have hiG : dist ts u x < 2 * dist ts u (hi ts u x) := by
          have := mf.ge
          omega
        -- near
        refine ⟨_, rfl, C, rfl, ⟨_, SqL.of hC5⟩, fun N nN => ?_⟩
        refine lc_list (K := K) (a := C) (xs := nV ons) (fun i H6 => Same H5 H6 ∧ H6 N = some (.lst (nV ((ons.take i).filter fun k => decide (2 * dist ts u (pl.getD k []) < most))))) ⟨same_new (Same.refl H5) nN, upd_same⟩ (fun i H6 _ hP => SqL.of (hP.1 _ _ hC5)) (fun i v H6 hi hP => ?_) (fun H6 hP => ?_)
        · obtain ⟨SM, hN⟩ := hP
          obtain ⟨k, ek, rfl, et⟩ := nV_at hi
          obtain ⟨kl, kp⟩ := (onm k).mp (List.mem_of_getElem? ek)
          have et := flt_snoc (P := fun k => decide (2 * dist ts u (pl.getD k []) < most)) et
          refine ⟨rfl, _, rfl, _, rfl, L, _, (bi : Int), _, rfl, rfl, SqL.of (rows4.keep SM).all, atB, _, rfl, ad u, _, (k : Int), _, rfl, rfl, SqL.of (rowU SM), atK kl, _, _, rfl, rfl, .inl ⟨by decide, by decide⟩, _, rfl, _, _, rfl, rfl, _, rfl, ?_⟩
          refine ite2 (fun z => ?_) (fun z => ?_)
          · rw [if_pos z] at et
            refine ⟨_, rfl, _, hN, ?_, same_put SM nN, by rw [upd_same, et, nV_snoc]⟩
            rw [nV_len]
            have := List.length_filter_le (fun k => decide (2 * dist ts u (pl.getD k []) < most)) (ons.take i)
            rw [List.length_take] at this
            exact sz_lt (by omega)
          · rw [if_neg z, List.append_nil] at et
            exact ⟨SM, by rw [et]; exact hN⟩
        · obtain ⟨SM, hN⟩ := hP
          rw [nV_len, List.take_length] at hN
          have nem : ∀ k, k ∈ ons.filter (fun k => decide (2 * dist ts u (pl.getD k []) < most)) ↔ k < pl.length ∧ pl.getD k [] ∈ path ts u x ∧ 2 * dist ts u (pl.getD k []) < most := fun k => by
            rw [List.mem_filter, onm, and_assoc]
            exact ⟨fun h => ⟨h.1, h.2.1, of_decide_eq_true h.2.2⟩, fun h => ⟨h.1, h.2.1, decide_eq_true h.2.2⟩⟩
          have nel : (ons.filter (fun k => decide (2 * dist ts u (pl.getD k []) < most))).length ≤ 1000 := Nat.le_trans (List.length_filter_le _ _) onl
          generalize ons.filter (fun k => decide (2 * dist ts u (pl.getD k []) < most)) = nes at hN nem nel
          have rows5 := rows4.keep SM
          have S7 := S6.trans SM
          have hC6 := SM _ _ hC5
          clear rowU rows4 nN
          have rowU := fun {H' : Hp} (s : Same H6 H') => (rows5.keep s).each u hu
          -- far
          refine ⟨_, rfl, C, rfl, ⟨_, SqL.of hC6⟩, fun G nG => ?_⟩
          refine lc_list (K := K) (a := C) (xs := nV ons) (fun i H7 => Same H6 H7 ∧ H7 G = some (.lst (nV ((ons.take i).filter fun k => decide (most < 2 * dist ts u (pl.getD k [])))))) ⟨same_new (Same.refl H6) nG, upd_same⟩ (fun i H7 _ hP => SqL.of (hP.1 _ _ hC6)) (fun i v H7 hi hP => ?_) (fun H7 hP => ?_)
          · obtain ⟨SM, hN⟩ := hP
            obtain ⟨k, ek, rfl, et⟩ := nV_at hi
            obtain ⟨kl, kp⟩ := (onm k).mp (List.mem_of_getElem? ek)
            have et := flt_snoc (P := fun k => decide (most < 2 * dist ts u (pl.getD k []))) et
            refine ⟨rfl, _, rfl, _, rfl, L, _, (bi : Int), _, rfl, rfl, SqL.of (rows5.keep SM).all, atB, _, rfl, ad u, _, (k : Int), _, rfl, rfl, SqL.of (rowU SM), atK kl, _, _, rfl, rfl, .inl ⟨by decide, by decide⟩, _, rfl, _, _, rfl, rfl, _, rfl, ?_⟩
            refine ite2 (fun z => ?_) (fun z => ?_)
            · rw [if_pos z] at et
              refine ⟨_, rfl, _, hN, ?_, same_put SM nG, by rw [upd_same, et, nV_snoc]⟩
              rw [nV_len]
              have := List.length_filter_le (fun k => decide (most < 2 * dist ts u (pl.getD k []))) (ons.take i)
              rw [List.length_take] at this
              exact sz_lt (by omega)
            · rw [if_neg z, List.append_nil] at et
              exact ⟨SM, by rw [et]; exact hN⟩
          · obtain ⟨SM2, hG⟩ := hP
            rw [nV_len, List.take_length] at hG
            have fam : ∀ k, k ∈ ons.filter (fun k => decide (most < 2 * dist ts u (pl.getD k []))) ↔ k < pl.length ∧ pl.getD k [] ∈ path ts u x ∧ most < 2 * dist ts u (pl.getD k []) := fun k => by
              rw [List.mem_filter, onm, and_assoc]
              exact ⟨fun h => ⟨h.1, h.2.1, of_decide_eq_true h.2.2⟩, fun h => ⟨h.1, h.2.1, decide_eq_true h.2.2⟩⟩
            have fal : (ons.filter (fun k => decide (most < 2 * dist ts u (pl.getD k [])))).length ≤ 1000 := Nat.le_trans (List.length_filter_le _ _) onl
            generalize ons.filter (fun k => decide (most < 2 * dist ts u (pl.getD k []))) = fas at hG fam fal
            have rows6 := rows5.keep SM2
            have S8 := S7.trans SM2
            have hN7 := SM2 _ _ hN
            clear rowU rows5 nG
            have rowU := fun {H' : Hp} (s : Same H7 H') => (rows6.keep s).each u hu
            -- low
            have lowI : ∃ k, k ∈ nes ∧ pl.getD k [] = lo ts u x := by
              obtain ⟨k, kl, ek⟩ := nth (pin _ loM)
              exact ⟨k, (nem k).mpr ⟨kl, by rw [ek]; exact loM, by rw [ek, ← ep']; exact loL⟩, ek⟩
            have highI : ∃ k, k ∈ fas ∧ pl.getD k [] = hi ts u x := by
              obtain ⟨k, kl, ek⟩ := nth (pin _ mf.hiM)
              exact ⟨k, (fam k).mpr ⟨kl, by rw [ek]; exact mf.hiM, by rw [ek, ← ep']; exact hiG⟩, ek⟩
            have npos : 0 < (nes.map fun k => dist ts u (pl.getD k [])).length := by
              obtain ⟨k, hk, _⟩ := lowI
              rw [List.length_map]
              exact List.length_pos_of_mem hk
            have fpos : 0 < (fas.map fun k => dist ts u (pl.getD k [])).length := by
              obtain ⟨k, hk, _⟩ := highI
              rw [List.length_map]
              exact List.length_pos_of_mem hk
            have elow : mxG (nes.map fun k => dist ts u (pl.getD k [])) = dist ts u (lo ts u x) := by
              obtain ⟨k, hk, ek⟩ := lowI
              refine (mxG_is (List.mem_map.mpr ⟨k, hk, by rw [ek]⟩) fun y hy => ?_).symm
              obtain ⟨j, hj, rfl⟩ := List.mem_map.mp hy
              obtain ⟨_, j2, j3⟩ := (nem j).mp hj
              exact (mf.low _ j2 (by rw [ep']; exact j3)).1
            have ehigh : mnG (fas.map fun k => dist ts u (pl.getD k [])) = dist ts u (hi ts u x) := by
              obtain ⟨k, hk, ek⟩ := highI
              refine (mnG_is (List.mem_map.mpr ⟨k, hk, by rw [ek]⟩) fun y hy => ?_).symm
              obtain ⟨j, hj, rfl⟩ := List.mem_map.mp hy
              obtain ⟨_, j2, j3⟩ := (fam j).mp hj
              exact (mf.high _ j2 (by rw [ep']; exact j3)).1
            obtain ⟨li, lr, el, lm, lq⟩ := flt_head (l := nes) (P := fun k => decide (dist ts u (pl.getD k []) = dist ts u (lo ts u x))) (by
              obtain ⟨k, hk, ek⟩ := lowI
              exact ⟨k, hk, by rw [ek]; exact decide_eq_true rfl⟩)
            obtain ⟨gi, gr, eg, gm, gq⟩ := flt_head (l := fas) (P := fun k => decide (dist ts u (pl.getD k []) = dist ts u (hi ts u x))) (by
              obtain ⟨k, hk, ek⟩ := highI
              exact ⟨k, hk, by rw [ek]; exact decide_eq_true rfl⟩)
            obtain ⟨ll, lp, lt'⟩ := (nem li).mp lm
            obtain ⟨gl, gp, gt'⟩ := (fam gi).mp gm
            have elo : pl.getD li [] = lo ts u x := (mf.low _ lp (by rw [ep']; exact lt')).2 (of_decide_eq_true lq)
            have ehi : pl.getD gi [] = hi ts u x := (mf.high _ gp (by rw [ep']; exact gt')).2 (of_decide_eq_true gq)
            have xlo : pl.idxOf (lo ts u x) = li := by rw [← elo]; exact idx ll
            have xhi : pl.idxOf (hi ts u x) = gi := by rw [← ehi]; exact idx gl
            refine ⟨_, rfl, N, rfl, ⟨_, SqL.of hN7⟩, fun E nE => ?_⟩
            refine lc_list (K := K) (a := N) (xs := nV nes) (fun i H8 => Same H7 H8 ∧ H8 E = some (.lst (nV ((nes.take i).filter fun k => decide (dist ts u (pl.getD k []) = dist ts u (lo ts u x)))))) ⟨same_new (Same.refl H7) nE, upd_same⟩ (fun i H8 _ hP => SqL.of (hP.1 _ _ hN7)) (fun i v H8 hi hP => ?_) (fun H8 hP => ?_)
            · obtain ⟨SM, hE⟩ := hP
              obtain ⟨k, ek, rfl, et⟩ := nV_at hi
              obtain ⟨kl, kp, _⟩ := (nem k).mp (List.mem_of_getElem? ek)
              have et := flt_snoc (P := fun k => decide (dist ts u (pl.getD k []) = dist ts u (lo ts u x))) et
              refine ⟨rfl, _, rfl, _, rfl, L, _, (bi : Int), _, rfl, rfl, SqL.of (rows6.keep SM).all, atB, _, rfl, ad u, _, (k : Int), _, rfl, rfl, SqL.of (rowU SM), atK kl, ?_⟩
              refine ⟨_, rfl, N, rfl, ⟨_, SqL.of (SM _ _ hN7)⟩, fun I nI => ?_⟩
              refine lc_list (K := K) (a := N) (xs := nV nes) (fun j H9 => Same H8 H9 ∧ H9 I = some (.lst (((nes.take j).map fun k => dist ts u (pl.getD k [])).map V.int))) ⟨same_new (Same.refl H8) nI, upd_same⟩ (fun j H9 _ hP => SqL.of (hP.1 _ _ (SM _ _ hN7))) (fun j v H9 hi hP => ?_) (fun H9 hP => ?_)
              · obtain ⟨SM3, hI⟩ := hP
                obtain ⟨k', ek', rfl, et'⟩ := nV_at hi
                obtain ⟨kl', _, _⟩ := (nem k').mp (List.mem_of_getElem? ek')
                refine ⟨rfl, _, rfl, _, rfl, L, _, (bi : Int), _, rfl, rfl, SqL.of (rows6.keep (SM.trans SM3)).all, atB, _, rfl, ad u, _, (k' : Int), _, rfl, rfl, SqL.of (rowU (SM.trans SM3)), atK kl', _, hI, ?_, same_put SM3 nI, ?_⟩
                · rw [List.length_map, List.length_map, List.length_take]
                  exact sz_lt (by omega)
                · rw [upd_same, et', List.map_append, List.map_append]
                  rfl
              · obtain ⟨SM3, hI⟩ := hP
                rw [nV_len, List.take_length] at hI
                refine ⟨I, _, rfl, SqL.of hI, npos, fun m hm' hle' => ?_⟩
                have em : m = dist ts u (lo ts u x) := (mxG_is hm' hle').trans elow
                subst em
                refine ⟨rfl, _, rfl, ?_⟩
                refine ite2 (fun z => ?_) (fun z => ?_)
                · have z : dist ts u (pl.getD k []) = dist ts u (lo ts u x) := V.int.inj (of_decide_eq_true z)
                  rw [if_pos (decide_eq_true z)] at et
                  refine ⟨_, rfl, _, SM3 _ _ hE, ?_, same_put (SM.trans SM3) nE, by rw [upd_same, et, nV_snoc]⟩
                  rw [nV_len]
                  have := List.length_filter_le (fun k => decide (dist ts u (pl.getD k []) = dist ts u (lo ts u x))) (nes.take i)
                  rw [List.length_take] at this
                  exact sz_lt (by omega)
                · have z : ¬ dist ts u (pl.getD k []) = dist ts u (lo ts u x) := fun h => z (decide_eq_true (congrArg V.int h))
                  rw [if_neg (by simpa using z), List.append_nil] at et
                  exact ⟨SM.trans SM3, by rw [et]; exact SM3 _ _ hE⟩
            · obtain ⟨SM3, hE⟩ := hP
              rw [nV_len, List.take_length, el] at hE
              have rows7 := rows6.keep SM3
              have S9 := S8.trans SM3
              have hG8 := SM3 _ _ hG
              refine ⟨E, _, 0, .int (li : Nat), rfl, rfl, SqL.of hE, atI_nat (j := 0) rfl, ?_⟩
              clear rowU rows6 nE
              have rowU := fun {H' : Hp} (s : Same H8 H') => (rows7.keep s).each u hu
              -- high
              refine ⟨_, rfl, G, rfl, ⟨_, SqL.of hG8⟩, fun E2 nE => ?_⟩
              refine lc_list (K := K) (a := G) (xs := nV fas) (fun i H9 => Same H8 H9 ∧ H9 E2 = some (.lst (nV ((fas.take i).filter fun k => decide (dist ts u (pl.getD k []) = dist ts u (hi ts u x)))))) ⟨same_new (Same.refl H8) nE, upd_same⟩ (fun i H9 _ hP => SqL.of (hP.1 _ _ hG8)) (fun i v H9 hi' hP => ?_) (fun H9 hP => ?_)
              · obtain ⟨SM, hE⟩ := hP
                obtain ⟨k, ek, rfl, et⟩ := nV_at hi'
                obtain ⟨kl, kp, _⟩ := (fam k).mp (List.mem_of_getElem? ek)
                have et := flt_snoc (P := fun k => decide (dist ts u (pl.getD k []) = dist ts u (hi ts u x))) et
                refine ⟨rfl, _, rfl, _, rfl, L, _, (bi : Int), _, rfl, rfl, SqL.of (rows7.keep SM).all, atB, _, rfl, ad u, _, (k : Int), _, rfl, rfl, SqL.of (rowU SM), atK kl, ?_⟩
                refine ⟨_, rfl, G, rfl, ⟨_, SqL.of (SM _ _ hG8)⟩, fun I nI => ?_⟩
                refine lc_list (K := K) (a := G) (xs := nV fas) (fun j H10 => Same H9 H10 ∧ H10 I = some (.lst (((fas.take j).map fun k => dist ts u (pl.getD k [])).map V.int))) ⟨same_new (Same.refl H9) nI, upd_same⟩ (fun j H10 _ hP => SqL.of (hP.1 _ _ (SM _ _ hG8))) (fun j v H10 hi' hP => ?_) (fun H10 hP => ?_)
                · obtain ⟨SM4, hI⟩ := hP
                  obtain ⟨k', ek', rfl, et'⟩ := nV_at hi'
                  obtain ⟨kl', _, _⟩ := (fam k').mp (List.mem_of_getElem? ek')
                  refine ⟨rfl, _, rfl, _, rfl, L, _, (bi : Int), _, rfl, rfl, SqL.of (rows7.keep (SM.trans SM4)).all, atB, _, rfl, ad u, _, (k' : Int), _, rfl, rfl, SqL.of (rowU (SM.trans SM4)), atK kl', _, hI, ?_, same_put SM4 nI, ?_⟩
                  · rw [List.length_map, List.length_map, List.length_take]
                    exact sz_lt (by omega)
                  · rw [upd_same, et', List.map_append, List.map_append]
                    rfl
                · obtain ⟨SM4, hI⟩ := hP
                  rw [nV_len, List.take_length] at hI
                  refine ⟨I, _, rfl, SqL.of hI, fpos, fun m hm' hle' => ?_⟩
                  have em : m = dist ts u (hi ts u x) := (mnG_is hm' hle').trans ehigh
                  subst em
                  refine ⟨rfl, _, rfl, ?_⟩
                  refine ite2 (fun z => ?_) (fun z => ?_)
                  · have z : dist ts u (pl.getD k []) = dist ts u (hi ts u x) := V.int.inj (of_decide_eq_true z)
                    rw [if_pos (decide_eq_true z)] at et
                    refine ⟨_, rfl, _, SM4 _ _ hE, ?_, same_put (SM.trans SM4) nE, by rw [upd_same, et, nV_snoc]⟩
                    rw [nV_len]
                    have := List.length_filter_le (fun k => decide (dist ts u (pl.getD k []) = dist ts u (hi ts u x))) (fas.take i)
                    rw [List.length_take] at this
                    exact sz_lt (by omega)
                  · have z : ¬ dist ts u (pl.getD k []) = dist ts u (hi ts u x) := fun h => z (decide_eq_true (congrArg V.int h))
                    rw [if_neg (by simpa using z), List.append_nil] at et
                    exact ⟨SM.trans SM4, by rw [et]; exact SM4 _ _ hE⟩
              · obtain ⟨SM4, hE2⟩ := hP
                rw [nV_len, List.take_length, eg] at hE2
                have rows8 := rows7.keep SM4
                have S10 := S9.trans SM4
                refine ⟨E2, _, 0, .int (gi : Nat), rfl, rfl, SqL.of hE2, atI_nat (j := 0) rfl, ?_⟩
                have rowU := rows8.each u hu
                -- part
                refine ⟨_, rfl, _, rfl, _, rfl, L, _, (bi : Int), _, rfl, rfl, SqL.of rows8.all, atB, _, rfl, ad u, _, (li : Int), _, rfl, rfl, SqL.of rowU, atK ll, _, _, rfl, rfl, .inl ⟨by decide, by decide⟩, _, _, rfl, rfl, ?_⟩
                refine ⟨fun σ6 H10 => H10 = H9 ∧ ∃ (l' h' : Nat) (p : Int), σ6 = [some (.ref t), some (.ref L), some (.int (bi : Nat)), some (.int (ei : Nat)), some (.ref a), some (.int most), x5, some (.ref C), some (.ref N), some (.ref G), some (.int (l' : Nat)), some (.int (h' : Nat)), some (.int p), none] ∧ l' < pl.length ∧ h' < pl.length ∧ pointD pl ts u x = .tuple [strD (pl.getD l' []), strD (pl.getD h' []), halfD p], ?_, fun σ6 H10 hM => ?_⟩
                · refine ⟨_, rfl, _, rfl, _, _, rfl, rfl, _, rfl, ?_⟩
                  refine ite2 (fun z => ?_) (fun z => ?_)
                  · have z : gi < li := by
                      have := of_decide_eq_true z
                      omega
                    refine ⟨_, rfl, _, rfl, _, rfl, _, rfl, L, _, (bi : Int), _, rfl, rfl, SqL.of rows8.all, atB, _, rfl, ad u, _, (gi : Int), _, rfl, rfl, SqL.of rowU, atK gl, _, _, rfl, rfl, .inl ⟨by decide, by decide⟩, _, rfl, _, _, rfl, rfl, _, _, _, rfl, ?_⟩
                    refine ⟨rfl, gi, li, _, rfl, gl, ll, ?_⟩
                    unfold pointD
                    rw [if_neg hne, xlo, xhi, if_neg (by omega), ← elo, ← ehi, ep']
                  · have z : ¬ gi < li := fun h => z (decide_eq_true (by omega))
                    have ne' : li ≠ gi := fun e => by
                      rw [e] at lt'
                      omega
                    refine ⟨rfl, li, gi, _, rfl, ll, gl, ?_⟩
                    unfold pointD
                    rw [if_neg hne, xlo, xhi, if_pos (by omega), ← elo, ← ehi, ep']
                · obtain ⟨rfl, l', h', p, rfl, ll', hl', epd⟩ := hM
                  refine ⟨_, rfl, _, rfl, a, _, (l' : Int), _, rfl, rfl, (ha.same S10).sq, plS ll', _, rfl, _, rfl, a, _, (h' : Int), _, rfl, rfl, (ha.same S10).sq, plS hl', ?_⟩
                  refine ⟨_, rfl, _, rfl, fun H11 r1 S11 hr1 => ⟨(by show 3 ≤ sizeLine; decide), fun t1 nt1 => ?_⟩⟩
                  refine q _ _ (same_new (S10.trans S11) nt1) ?_
                  rw [epd]
                  exact .tup upd_same (.cons (.str _) (.cons (.str _) (.cons (Dt.keep (TK.new nt1) hr1) .nil)))
end
end Far

namespace Far
open PySem PySem.Spec PyProof.Rows L2
open SX (S)
/-! ### sorted of a list whose items are data of one kind -/
theorem each_fst : ∀ {bs : List (V × PyData)} {us : List Value}, Vals (bs.map (·.1)) us → PySem.W.EachIs (fun u b => RelV b.1 u) us bs
  | [], [], .nil => .nil
  | _ :: _, _ :: _, .cons h t => .cons h (each_fst t)
theorem fst_each {us : List Value} {bs : List (V × PyData)} (h : PySem.W.EachIs (fun u b => RelV b.1 u) us bs) : Vals (bs.map (·.1)) us := by
  induction h with
  | nil => exact .nil
  | cons e _ ih => exact .cons e ih
def rSortedD (K : PySem.W.Frag) : List V → Hp → VK → Prop := fun vs H Q => ∃ (a : Addr) (bs : List (V × PyData)), vs = [V.ref a] ∧ SqL K H a (bs.map (·.1)) ∧ (∀ b ∈ bs, Dp K H b.1 b.2 ∧ b.2.depth ≤ 8) ∧ PySem.W.AllAlike (bs.map (·.2)) ∧ PySem.W.Sortable (bs.map (·.2)) ∧
  ∀ p, H p = none → Q (.ref p) (upd H p (.lst ((bs.mergeSort (PySem.W.dataLe false (·.2))).map (·.1))))
section
variable {X : Cx}
theorem each_dp {pins : List (Addr × Obj)} {σ : L2.St} {H : Hp} {s : Shared} (I : Inv X pins σ H s) : ∀ {bs : List (V × PyData)} {us : List Value}, (∀ b ∈ bs, Dp X.K H b.1 b.2 ∧ b.2.depth ≤ 8) → Vals (bs.map (·.1)) us → PySem.W.EachIs (fun u b => ∃ as, Reads s.heap u b.2 as) us bs
  | [], [], _, .nil => .nil
  | b :: _, _ :: _, hb, .cons h t => .cons (Dp.reads I _ _ _ (hb b List.mem_cons_self).1 h) (each_dp I (fun x hx => hb x (List.mem_cons_of_mem _ hx)) t)
theorem cr_sortedD (hr : Room 1 X.A) : CallR X (.builtin "sorted") (rSortedD X.K) := by
  intro pins s σ H vs us Q I r h
  obtain ⟨a, bs, rfl, hs, hb, hal, hk, q⟩ := h
  obtain ⟨its, rv, hl, hz⟩ := I.list hs
  rw [Vals.ref1 r]
  rw [List.length_map] at hz
  refine PySem.W.sorted_data (R := fun u b => RelV b.1 u) (bs := bs) (enc := (·.2)) hl.isList (each_fst rv) (each_dp I hb rv) hal hk hz (fun b hm => ?_) fun out ho he => ?_
  · have := hr.un
    have := (hb b hm).2
    omega
  · obtain ⟨ep, he'⟩ := PyProof.Rows.sortedAll_at s.heap its out.toArray
    exact ⟨.ref _, upd H (s.heap.objs.size + 1) (.lst ((bs.mergeSort (PySem.W.dataLe false (·.2))).map (·.1))), I.laid (t' := s.toks) (fun _ _ => PyProof.Rows.sortedAll_old) (Nat.le_succ _) ⟨by rw [List.length_map, List.length_mergeSort]; exact hz, out, ep, fst_each he, he'⟩, rfl, q _ (I.hok.fresh (Nat.le_succ _))⟩
theorem cr_sortedDL {K : PySem.W.Frag} (hr : Room 1 X.A) (eK : X.K = K := by rfl) : CallR X (.builtin "sorted") (rSortedD K) := by subst eK; exact cr_sortedD hr
theorem op_eqDL {K : PySem.W.Frag} (hu : X.A.units + 64 < cLine) (eK : X.K = K := by rfl) : OpR X (compareOp .Eq) (rEqD K) := by subst eK; exact op_eqD hu
end
theorem bt_sorted : bootBuiltins ("sorted" : Str) = some (.builtin "sorted") := by decide +kernel
theorem ms_two {α : Type} (le : α → α → Bool) (x y : α) : [x, y].mergeSort le = if le x y = true then [x, y] else [y, x] := by
  by_cases c : le x y = true
  · simp [List.mergeSort, List.MergeSort.Internal.splitInTwo, List.merge, c]
  · simp [List.mergeSort, List.MergeSort.Internal.splitInTwo, List.merge, c]
/-- two names in their order -/
def leN (a b : Nm) : Bool := decide ((S a).cps.toList ≤ (S b).cps.toList)
def two (a b : Nm) : List Nm := if leN a b = true then [a, b] else [b, a]
theorem leN_total (a b : Nm) : leN a b = true ∨ leN b a = true := by
  unfold leN
  rw [decide_eq_true_eq, decide_eq_true_eq]
  exact List.le_total _ _
theorem leN_anti {a b : Nm} (h1 : leN a b = true) (h2 : leN b a = true) : a = b := by
  unfold leN at h1 h2
  rw [decide_eq_true_eq] at h1 h2
  have e := List.le_antisymm h1 h2
  exact SX.S_inj (by
    show (S a) = S b
    have e2 : (S a).cps = (S b).cps := Array.toList_inj.mp e
    cases ha : S a with
    | mk x =>
      cases hb : S b with
      | mk y =>
        rw [ha, hb] at e2
        rw [show x = y from e2])
theorem two_eq {a b c d : Nm} : two a b = two c d ↔ (a, b) = (c, d) ∨ (a, b) = (d, c) := by
  unfold two
  rw [Prod.mk.injEq, Prod.mk.injEq]
  by_cases h1 : leN a b = true <;> by_cases h2 : leN c d = true
  · rw [if_pos h1, if_pos h2]
    simp only [List.cons.injEq, and_true]
    refine ⟨.inl, fun h => h.elim id fun ⟨e1, e2⟩ => ?_⟩
    subst e1 e2
    have := leN_anti h1 h2
    exact ⟨this, this.symm⟩
  · rw [if_pos h1, if_neg h2]
    simp only [List.cons.injEq, and_true]
    refine ⟨.inr, fun h => h.elim (fun ⟨e1, e2⟩ => ?_) id⟩
    subst e1 e2
    exact absurd h1 h2
  · rw [if_neg h1, if_pos h2]
    simp only [List.cons.injEq, and_true]
    refine ⟨fun ⟨e1, e2⟩ => .inr ⟨e2, e1⟩, fun h => h.elim (fun ⟨e1, e2⟩ => ?_) fun ⟨e1, e2⟩ => ⟨e2, e1⟩⟩
    subst e1 e2
    exact absurd h2 h1
  · rw [if_neg h1, if_neg h2]
    simp only [List.cons.injEq, and_true]
    refine ⟨fun ⟨e1, e2⟩ => .inl ⟨e2, e1⟩, fun h => h.elim (fun ⟨e1, e2⟩ => ⟨e2, e1⟩) fun ⟨e1, e2⟩ => ?_⟩
    subst e1 e2
    have := leN_total a b
    rcases this with h | h
    · exact absurd h h1
    · exact absurd h h2
/-- sorted([one, other]) of two texts -/
theorem srt_two (a b : Nm) : (([(V.str (S a), strD a), (V.str (S b), strD b)] : List (V × PyData)).mergeSort (PySem.W.dataLe false (·.2))).map (·.1) = ((two a b).map S).map V.str := by
  have e : ∀ x y : Nm, PySem.W.dataLe false (·.2) ((V.str (S x), strD x) : V × PyData) (V.str (S y), strD y) = leN x y := fun x y =>
    congrFun (congrFun (PySem.W.dataLe_str fun z : Nm => S z) x) y
  rw [ms_two, e]
  unfold two
  by_cases c : leN a b = true
  · rw [if_pos c, if_pos c]
    rfl
  · rw [if_neg c, if_neg c]
    rfl
theorem srt_all (a b : Nm) : PySem.W.AllAlike (([(V.str (S a), strD a), (V.str (S b), strD b)] : List (V × PyData)).map (·.2)) ∧ PySem.W.Sortable (([(V.str (S a), strD a), (V.str (S b), strD b)] : List (V × PyData)).map (·.2)) := by
  constructor
  · intro d hd d' hd'
    simp only [List.map_cons, List.map_nil, List.mem_cons, List.not_mem_nil, or_false] at hd hd'
    rcases hd with rfl | rfl <;> rcases hd' with rfl | rfl <;> rfl
  · refine .inr fun d hd => ?_
    simp only [List.map_cons, List.map_nil, List.mem_cons, List.not_mem_nil, or_false] at hd
    rcases hd with rfl | rfl
    · exact ⟨(by intro z; cases z), fun xs z => by cases z⟩
    · exact ⟨(by intro z; cases z), fun xs z => by cases z⟩
end Far

namespace Far
open PySem PySem.Spec PyProof.Rows L2
open C8 (pss_cut tCut)
open SX (S)
theorem find_head {α : Type} {P : α → Bool} : ∀ l : List α, (l.filter P).head? = l.find? P
  | [] => rfl
  | x :: r => by
    by_cases c : P x = true
    · rw [List.filter_cons, if_pos c, List.find?_cons_of_pos c]
      rfl
    · rw [List.filter_cons, if_neg c, List.find?_cons_of_neg (by simpa using c)]
      exact find_head r
/-- the items of a list, as data -/
def aftD (n below : Int) : PyData := .tuple [.int n, .int below]
theorem two_shape (a b : Nm) : SeqAt.shaped (.list ((two a b).map strD)) = (SeqAt.shaped (.list [strD a, strD b])) := by
  unfold two
  by_cases c : leN a b = true
  · rw [if_pos c]
    rfl
  · rw [if_neg c]
    show ((PyData.strOk (S b) && (PyData.strOk (S a) && true)) && _) = ((PyData.strOk (S a) && (PyData.strOk (S b) && true)) && _)
    rw [Bool.and_true, Bool.and_true, Bool.and_comm (PyData.strOk (S b))]
    rfl
theorem two_ok {a b : Nm} (ha : NameOk a) (hb : NameOk b) : SeqAt.shaped (.list ((two a b).map strD)) = true := by
  rw [two_shape]
  show ((PyData.strOk (S a) && (PyData.strOk (S b) && true)) && _) = true
  rw [strOk_S ha, strOk_S hb]
  rfl
theorem strs_eqv : ∀ {xs ys : List Nm}, PyData.eqv (.list (xs.map strD)) (.list (ys.map strD)) = true ↔ xs = ys := by
  have key : ∀ xs ys : List Nm, PyData.eqvAll (xs.map strD) (ys.map strD) = true ↔ xs = ys := by
    intro xs
    induction xs with
    | nil =>
      intro ys
      cases ys with
      | nil => exact ⟨fun _ => rfl, fun _ => rfl⟩
      | cons y r => exact ⟨fun h => (by cases h), fun h => (by cases h)⟩
    | cons x xs ih =>
      intro ys
      cases ys with
      | nil => exact ⟨fun h => (by cases h), fun h => (by cases h)⟩
      | cons y r =>
        show (S x == S y && PyData.eqvAll (xs.map strD) (r.map strD)) = true ↔ _
        rw [Bool.and_eq_true, beq_iff_eq, ih]
        constructor
        · rintro ⟨h1, h2⟩
          rw [SX.S_inj h1, h2]
        · intro h
          cases h
          exact ⟨rfl, rfl⟩
  exact fun {xs ys} => key xs ys
theorem joins_two (a b : Nm) (t : Tie) : joins a b t = PyData.eqv (.list ((two t.1 t.2.1).map strD)) (.list ((two a b).map strD)) := by
  rw [Bool.eq_iff_iff, strs_eqv, two_eq]
  unfold joins
  rw [decide_eq_true_eq]
  simp only [List.mem_cons, List.not_mem_nil, or_false]
theorem dbl_place {pl : List Nm} {ts : List Tie} (F : IsTree pl ts) (u y : Nm) : dbl ts (u, u, 0, 1) y = 2 * dist ts u y := by
  unfold dbl mn2
  have := (F.dist_self u).1
  dsimp only
  rw [this, if_neg (by omega)]
  omega
theorem srt_dp {K : PySem.W.Frag} {H : Hp} (a b : Nm) : ∀ z ∈ ([(V.str (S a), strD a), (V.str (S b), strD b)] : List (V × PyData)), Dp K H z.1 z.2 ∧ z.2.depth ≤ 8 := by
  intro z hz
  simp only [List.mem_cons, List.not_mem_nil, or_false] at hz
  rcases hz with rfl | rfl
  · exact ⟨.str _, Nat.zero_le _⟩
  · exact ⟨.str _, Nat.zero_le _⟩
theorem layInts : ∀ ls : List Int, PyData.canLayAll0 (ls.map PyData.int) = true
  | [] => rfl
  | x :: r => by
    show (PyData.canLay0 (.int x) && PyData.canLayAll0 (r.map PyData.int)) = true
    rw [layInts r]
    rfl
theorem ints_shaped (ns : List Int) : SeqAt.shaped (.list (ns.map .int)) = true := by
  show (PyData.canLayAll0 (ns.map PyData.int) && decide (PyData.depthAll (ns.map PyData.int) + 1 ≤ 64)) = true
  rw [layInts, PySem.W.depth_ints]
  rfl
abbrev s_law_from_point : Stmt := topS 25
abbrev N_law_from_point : List Str := ["tree", "lengths", "point", "places", "ties", "one", "other", "part", "tie", "above", "below", "found", "near", "far", "away", "begin", "end", "length"]
theorem sc_law_from_point : FnScope N_law_from_point ["tree", "lengths", "point"] (defScope s_law_from_point) := ⟨rfl, rfl, rfl, by decide +kernel, rfl, by decide +kernel, by decide +kernel⟩
section
variable {P : Program} {w : World} {K : PySem.W.Frag} {mg : Str → Option Value} {base : Heap}
def spFromP : Sp := fun vs H Q _ => ∃ (v u : V) (pl : List Nm) (ts : List Tie) (p : Pt) (L : Addr) (ad : Nm → Addr), vs = [v, .ref L, u] ∧ Dt H v (treeD pl ts) ∧ PlZ H v pl ∧ Fine pl ts ∧ RowsAt H L pl pl ts ad ∧ Dt H u (ptD p) ∧ NameOk p.1 ∧ NameOk p.2.1 ∧ (-(2 ^ 64) < p.2.2.2 ∧ p.2.2.2 < 2 ^ 64) ∧
  ∀ (H' : Hp) (r : V), Same H H' → ((isPt pl ts p = false ∧ r = .non) ∨ (isPt pl ts p = true ∧ ∃ (a : Addr) (vs : List V), r = .ref a ∧ H' a = some (.lst vs) ∧ DtAll H' vs (pl.map fun y => aftD (dbl ts p y) p.2.2.2))) → Q r H'
theorem ok_from_point {f : Addr} {fd : FuncData} (F : Fun K "_law_from_point" "_law_from_point" s_law_from_point f fd) (T : TxtM mg) (C_law_divides : Cal P w K mg base 1 "_law_divides" spDiv) : FnOk P w K mg base CX0 2 f fd ["tree", "lengths", "point"] spFromP := by
  refine F.ok sc_law_from_point (fun vs H Q E h => ?_) (fun cdv A outer s H vs Q E hr h => ?_)
  · obtain ⟨v, u, pl, ts, p, L, ad, rfl, _⟩ := h
    rfl
  · obtain ⟨v, u, pl, ts, ⟨one, other, above, below⟩, L, ad, rfl, hd, hz, fine, rows, hu, n1, n2, hbd, q⟩ := h
    obtain ⟨t, a, b, vs, rfl, ht, ha, hb', hA⟩ := dt_tree hd
    obtain ⟨g, r, rfl, hg, hr2⟩ := dt_pt hu
    dsimp only at n1 n2 hg hr2 hbd q
    obtain ⟨t0, a0, b0, o, e0, ht0, od, haz⟩ := hz
    cases e0
    cases Option.some.inj (ht0.symm.trans ht)
    have nd := fine.tree.nodup
    have pll := fine.len
    have no : ∀ H' : Hp, isPt pl ts (one, other, above, below) = false → Same H H' → Q .non H' := fun H' e S => q H' _ S (.inl ⟨e, rfl⟩)
    have sl : ∀ {y : Nm}, y ∈ pl → atI (pl.map fun u => V.ref (ad u)) ((pl.idxOf y : Nat) : Int) = some (.ref (ad y)) := fun {y} hy => atI_nat (by
      have h1 : pl.idxOf y < pl.length := List.idxOf_lt_length_of_mem hy
      rw [List.getElem?_map, List.getElem?_eq_getElem h1, List.getElem_idxOf h1]
      rfl)
    refine ⟨_, (pss_cons (ps_asg (pv 0) (pg_tup rfl (pgs_cons (pg_name (i := 3) sc_law_from_point.nd rfl (.inl rfl)) (pgs_cons (pg_name (i := 4) sc_law_from_point.nd rfl (.inl rfl)) pgs_nil))))
      (pss_cons (ps_asg (pv 2) (pg_tup rfl (pgs_cons (pg_name (i := 5) sc_law_from_point.nd rfl (.inr rfl)) (pgs_cons (pg_name (i := 6) sc_law_from_point.nd rfl (.inr rfl)) (pgs_cons (pg_name (i := 7) sc_law_from_point.nd rfl (.inl rfl)) pgs_nil)))))
      (pss_cut (ps_if (PW.pt (pw_or (pt_cmpR op_notIn_seq (pv 5) (pv 3) rfl) (pw_or1 (pt_cmpR op_notIn_seq (pv 6) (pv 3) rfl))))
        (pss_one (ps_ret pe_non))
        pss_nil)
      (pss_cut (ps_if (pt_cmpR op_eq (pv 5) (pv 6) (nomark _))
        (pss_cut (ps_if (pt_cmpR (op_neD (hd_of hr (by decide))) (pv 7) (pe_tup (pa_cons pe_int (pa_cons pe_int pa_nil))) (nomark _))
          (pss_one (ps_ret pe_non))
          pss_nil)
        (pss_one (ps_ret (pe_lc (own := [("length", 17)]) (g := gName 17) (tt := tYes) rfl sc_law_from_point.nd (pi_list (pe_ix ix_list (pv 1) (pe_ixZ (pv 3) (pv 5)) (fun _ _ => rfl))) (blkOk_by (N := N_law_from_point) (sc := defScope s_law_from_point) (by decide +kernel)) (fun _ _ _ _ _ => pg_name (i := 17) sc_law_from_point.nd rfl (Or.inl rfl)) (fun _ _ _ _ _ => pts_nil) (fun _ _ _ _ _ => (pe_tup (pa_cons (pe_op op_mul pe_int (pv 17)) (pa_cons pe_int pa_nil))))))))
        pss_nil)
      (pss_cons (ps_setLc (i := 8) (own := [("begin", 15), ("end", 16), ("length", 17)]) (g := gTup K 3 (gCons (gName 15) (gCons (gName 16) (gCons (gName 17) gNil))))  rfl sc_law_from_point.nd rfl rfl (sw_true rfl rfl rfl (by decide +kernel)) (pi_tup (pv 4)) (blkOk_by (N := N_law_from_point) (sc := defScope s_law_from_point) (by decide +kernel)) (fun _ _ _ _ _ => (pg_tup rfl (pgs_cons (pg_name (i := 15) sc_law_from_point.nd rfl (.inl rfl)) (pgs_cons (pg_name (i := 16) sc_law_from_point.nd rfl (.inl rfl)) (pgs_cons (pg_name (i := 17) sc_law_from_point.nd rfl (.inl rfl)) pgs_nil))))) (fun _ _ _ _ _ => pts_one (pt_cmpR (op_eqDL (K := K) (hd_of hr (Nat.le_refl 1))) (pe_callB (cr_sortedDL (K := K) (hr.mono (Nat.le_refl 1))) (by rfl) T.sorted bt_sorted (pa_cons (pe_lst (pa_cons (pv 15) (pa_cons (pv 16) pa_nil))) pa_nil)) (pe_callB (cr_sortedDL (K := K) (hr.mono (Nat.le_refl 1))) (by rfl) T.sorted bt_sorted (pa_cons (pe_lst (pa_cons (pv 5) (pa_cons (pv 6) pa_nil))) pa_nil)) (nomark _))) (fun _ _ _ _ _ => (pv 17)))
      (pss_cons (ps_asg (pv 7) (pg_tup rfl (pgs_cons (pg_name (i := 9) sc_law_from_point.nd rfl (.inl rfl)) (pgs_cons (pg_name (i := 10) sc_law_from_point.nd rfl (.inl rfl)) pgs_nil))))
      (pss_cut (ps_if (PW.pt (pw_or (pt_cmpR (op_eqD (hd_of hr (by decide))) (pv 8) (pe_lst pa_nil) (nomark _)) (pw_or1 (pt_cmpR op_gt (pe_ixZ (pv 3) (pv 5)) (pe_ixZ (pv 3) (pv 6)) (nomark _)))))
        (pss_one (ps_ret pe_non))
        pss_nil)
      (pss_cut (ps_if (PW.pt (pw_or (pt_cmpR op_lt (pv 10) pe_int (nomark _)) (pw_or1 (pt_cmpR op_ne (pe_c C_law_divides hr (by decide) rfl (pa_cons (pv 9) (pa_cons (pv 10) pa_nil))) pe_int (nomark _)))))
        (pss_one (ps_ret pe_non))
        pss_nil)
      (pss_cut (ps_if (PW.pt (pw_or (pt_cmpR op_lt (pv 9) pe_int (nomark _)) (pw_or1 (pt_cmpR op_ge (pv 9) (pe_op op_mul (pe_ix ix_list (pv 8) pe_int (fun _ _ => rfl)) (pv 10)) (nomark _)))))
        (pss_one (ps_ret pe_non))
        pss_nil)
      (pss_cons (ps_set (i := 11) sc_law_from_point.nd rfl (.inl rfl) (pe_lst pa_nil))
      (pss_cut (ps_for PassesOwn.never rfl (pi_zip (by rfl) T.zip (pa_cons (pe_ix ix_list (pv 1) (pe_ixZ (pv 3) (pv 5)) (fun _ _ => rfl)) (pa_cons (pe_ix ix_list (pv 1) (pe_ixZ (pv 3) (pv 6)) (fun _ _ => rfl)) pa_nil))) (pg_tup rfl (pgs_cons (pg_name (i := 12) sc_law_from_point.nd rfl (.inl rfl)) (pgs_cons (pg_name (i := 13) sc_law_from_point.nd rfl (.inl rfl)) pgs_nil)))
        (pss_cons (ps_set (i := 14) sc_law_from_point.nd rfl (.inl rfl) (pe_callB (call_min2 rfl) (by rfl) T.min bt_min (pa_cons (pe_op op_add (pe_op op_mul (pv 12) (pv 10)) (pv 9)) (pa_cons (pe_op op_sub (pe_op op_mul (pe_op op_add (pv 13) (pe_ix ix_list (pv 8) pe_int (fun _ _ => rfl))) (pv 10)) (pv 9)) pa_nil))))
        (pss_one (ps_expr (pe_bm PySem.F.plainAttrs_list PySem.F.slot_list_append PySem.F.type_list_append mt_append (pv 11) (pa_cons (pe_tup (pa_cons (pe_op op_mul pe_int (pv 14)) (pa_cons (pv 10) pa_nil))) pa_nil))))))
      (pss_one (ps_ret (pv 11)))))))))))))), ?_⟩
    refine ⟨_, rfl, t, _, rfl, SqT.of ht, rfl, _, _, rfl, _, _, rfl, rfl, ?_⟩
    refine ⟨_, rfl, g, _, rfl, SqT.of hg, rfl, _, _, rfl, _, _, rfl, _, _, rfl, rfl, ?_⟩
    have isNo : ∀ y, y = one ∨ y = other → y ∉ pl → isPt pl ts (one, other, above, below) = false := fun y hy hn => by
      cases h : isPt pl ts (one, other, above, below) with
      | false => rfl
      | true =>
        obtain ⟨k1, k2⟩ := isPt_mem fine.tree h
        rcases hy with e | e
        · rw [e] at hn
          exact absurd k1 hn
        · rw [e] at hn
          exact absurd k2 hn
    refine ⟨fun σ' H' => one ∈ pl ∧ other ∈ pl ∧ σ' = [some (.ref t), some (.ref L), some (.ref g), some (.ref a), some (.ref b), some (.str (S one)), some (.str (S other)), some (.ref r), none, none, none, none, none, none, none, none, none, none] ∧ H' = H, ?_, fun σ' H' hM => ?_⟩
    · refine ⟨_, rfl, _, rfl, a, _, rfl, .inr ha.sq, rfl, flat_strs pl, _, rfl, ?_⟩
      rw [inV_strs]
      by_cases c1 : one ∈ pl
      · refine iteF' (by rw [decide_eq_true c1]; rfl) ?_
        refine ⟨_, rfl, _, rfl, a, _, rfl, .inr ha.sq, rfl, flat_strs pl, _, rfl, ?_⟩
        rw [inV_strs]
        by_cases c2 : other ∈ pl
        · exact iteF' (by rw [decide_eq_true c2]; rfl) ⟨c1, c2, rfl, rfl⟩
        · exact iteT' (by rw [decide_eq_false c2]; rfl) (no _ (isNo other (.inr rfl) c2) (Same.refl H))
      · exact iteT' (by rw [decide_eq_false c1]; rfl) (iteT (no _ (isNo one (.inl rfl) c1) (Same.refl H)))
    obtain ⟨m1, m2, rfl, rfl⟩ := hM
    refine ⟨fun σ' H'' => one ≠ other ∧ σ' = [some (.ref t), some (.ref L), some (.ref g), some (.ref a), some (.ref b), some (.str (S one)), some (.str (S other)), some (.ref r), none, none, none, none, none, none, none, none, none, none] ∧ H'' = H', ?_, fun σ' H'' hM => ?_⟩
    · refine ⟨_, rfl, _, rfl, rfl, _, rfl, ?_⟩
      by_cases c : one = other
      · subst c
        refine iteT' (decide_eq_true rfl) ?_
        refine ⟨fun σ' H'' => above = 0 ∧ below = 1 ∧ σ' = [some (.ref t), some (.ref L), some (.ref g), some (.ref a), some (.ref b), some (.str (S one)), some (.str (S one)), some (.ref r), none, none, none, none, none, none, none, none, none, none] ∧ Same H' H'', ?_, fun σ' H2 hM => ?_⟩
        · refine ⟨_, rfl, (by show 2 ≤ sizeLine; decide), fun e ne => ?_⟩
          have tke := TK.new (o := .tup [.int 0, .int 1]) ne
          refine ⟨.tuple [.int above, .int below], .tuple [.int 0, .int 1], Dt.dp (.tup (tke.tup _ _ hr2) (.cons (.int _) (.cons (.int _) .nil))), Dt.dp (.tup upd_same (.cons (.int _) (.cons (.int _) .nil))), rfl, rfl, _, rfl, ?_⟩
          have S1 := same_new (o := .tup [.int 0, .int 1]) (Same.refl H') ne
          by_cases c1 : above = 0 ∧ below = 1
          · refine iteF' ?_ ⟨c1.1, c1.2, rfl, S1⟩
            rw [c1.1, c1.2]
            rfl
          · have e1 : ((above == 0) && ((below == 1) && true)) = false := by
              rw [Bool.and_true]
              cases hx : ((above == 0) && (below == 1)) with
              | false => rfl
              | true =>
                rw [Bool.and_eq_true, beq_iff_eq, beq_iff_eq] at hx
                exact absurd hx c1
            refine iteT' ?_ (no _ ?_ S1)
            · show (!((above == 0) && ((below == 1) && true))) = true
              rw [e1]
              rfl
            · unfold isPt
              rw [if_pos rfl]
              show (decide (one ∈ pl) && decide ((above, below) = ((0 : Int), (1 : Int)))) = false
              rw [decide_eq_false (fun z : (above, below) = ((0 : Int), (1 : Int)) => c1 ⟨congrArg Prod.fst z, congrArg Prod.snd z⟩), Bool.and_false]
        · obtain ⟨rfl, rfl, rfl, S1⟩ := hM
          obtain ⟨i1, i2⟩ := idx_at nd m1
          have hrow := S1 _ _ (rows.each one m1)
          refine ⟨_, rfl, _, rfl, a, _, o, rfl, od, S1 _ _ haz, _, rfl, rfl, _, _, rfl, i1, i2, L, _, ((pl.idxOf one : Nat) : Int), .ref (ad one), rfl, rfl, SqL.of (S1 _ _ rows.all), sl m1, ad one, rfl, ⟨_, SqL.of hrow⟩, fun D nD => ?_⟩
          refine lc_list (K := K) (a := ad one) (xs := pl.map fun x => .int (dist ts one x)) (fun i H3 => Same H2 H3 ∧ ∃ ws, H3 D = some (.lst ws) ∧ ws.length = i ∧ DtAll H3 ws ((pl.take i).map fun y => aftD (dbl ts (one, one, 0, 1) y) 1)) ⟨same_new (Same.refl _) nD, [], upd_same, rfl, .nil⟩ (fun i H3 _ hP => SqL.of (hP.1 _ _ hrow)) (fun i v H3 hi hP => ?_) (fun H3 hP => ?_)
          · obtain ⟨SM, ws, hD, wl, hW⟩ := hP
            rw [List.getElem?_map] at hi
            cases el : pl[i]? with
            | none => rw [el] at hi; cases hi
            | some x =>
              rw [el] at hi
              have ev : v = .int (dist ts one x) := (Option.some.inj hi).symm
              subst ev
              have il := (List.getElem?_eq_some_iff.mp el).1
              refine ⟨rfl, _, rfl, _, _, rfl, rfl, .inl ⟨by decide, by decide⟩, (by show 2 ≤ sizeLine; decide), fun e ne => ?_⟩
              have hD2 : (upd H3 e (.tup [.int (2 * dist ts one x), .int 1])) D = some (.lst ws) := by
                rw [upd_ne (ne_of_none hD ne)]
                exact hD
              have tk : TK (upd H3 e (.tup [.int (2 * dist ts one x), .int 1])) (upd (upd H3 e (.tup [.int (2 * dist ts one x), .int 1])) D (.lst (ws ++ [.ref e]))) := TK.mut hD2
              refine ⟨ws, hD2, sz_lt (by omega), same_put (same_new SM ne) nD, ws ++ [.ref e], upd_same, by rw [List.length_append, wl]; rfl, ?_⟩
              rw [List.take_add_one, el, List.map_append]
              refine DtAll.app (DtAll.keep ((TK.new ne).trans tk) hW) (.cons ?_ .nil)
              show Dt _ _ (aftD (dbl ts (one, one, 0, 1) x) 1)
              rw [dbl_place fine.tree]
              exact .tup (tk.tup _ _ upd_same) (.cons (.int _) (.cons (.int _) .nil))
          · obtain ⟨SM, ws, hD, wl, hW⟩ := hP
            rw [List.length_map, List.take_length] at hW
            refine q _ (.ref D) (S1.trans SM) (.inr ⟨?_, D, ws, rfl, hD, hW⟩)
            unfold isPt
            rw [if_pos rfl]
            show (decide (one ∈ pl) && decide (((0 : Int), (1 : Int)) = (0, 1))) = true
            rw [decide_eq_true m1]
            rfl
      · exact iteF' (decide_eq_false fun z => c (SX.S_inj (V.str.inj z))) ⟨c, rfl, rfl⟩
    obtain ⟨c, rfl, rfl⟩ := hM
    -- the ties that join them
    refine ⟨_, rfl, b, rfl, ⟨_, SqT.of hb'⟩, fun C nC => ?_⟩
    refine lc_tup (K := K) (a := b) (xs := vs) (fun i H2 => Same H'' H2 ∧ H2 C = some (.lst (((ts.take i).filter (joins one other)).map fun t => .int t.2.2))) ⟨same_new (Same.refl _) nC, upd_same⟩ (fun i H2 _ hP => SqT.of (hP.1 _ _ hb')) (fun i x H2 hi hP => ?_) (fun H2 hP => ?_)
    · obtain ⟨SM, hC⟩ := hP
      obtain ⟨t3, p3, ht3, rfl, hp3⟩ := tie_at (DtAll.keep (TK.of SM) hA) hi
      have et : ts.take (i + 1) = ts.take i ++ [t3] := by rw [List.take_add_one, ht3]; rfl
      have ti := fine.tree.ties t3 (List.mem_of_getElem? ht3)
      have il := (List.getElem?_eq_some_iff.mp ht3).1
      have tl1 := fine.tree.len
      refine ⟨p3, _, rfl, SqT.of hp3, rfl, _, _, rfl, _, _, rfl, _, _, rfl, rfl, rfl, ?_⟩
      refine ⟨_, rfl, _, rfl, (by show 2 ≤ sizeLine; decide), fun e1 ne1 => ?_⟩
      refine ⟨e1, [(.str (S t3.1), strD t3.1), (.str (S t3.2.1), strD t3.2.1)], rfl, SqL.of upd_same, srt_dp _ _, (srt_all _ _).1, (srt_all _ _).2, fun e2 ne2 => ?_⟩
      rw [srt_two]
      refine ⟨_, rfl, _, rfl, (by show 2 ≤ sizeLine; decide), fun e3 ne3 => ?_⟩
      refine ⟨e3, [(.str (S one), strD one), (.str (S other), strD other)], rfl, SqL.of upd_same, srt_dp _ _, (srt_all _ _).1, (srt_all _ _).2, fun e4 ne4 => ?_⟩
      rw [srt_two]
      have hq2 : (upd (upd H2 e1 (.lst [.str (S t3.1), .str (S t3.2.1)])) e2 (.lst (((two t3.1 t3.2.1).map S).map V.str))) e2 = some (.lst (((two t3.1 t3.2.1).map S).map V.str)) := upd_same
      have S2 := same_new (o := .lst (((two t3.1 t3.2.1).map S).map V.str)) (same_new (o := .lst [.str (S t3.1), .str (S t3.2.1)]) (Same.refl H2) ne1) ne2
      generalize upd (upd H2 e1 (.lst [.str (S t3.1), .str (S t3.2.1)])) e2 (.lst (((two t3.1 t3.2.1).map S).map V.str)) = H3 at hq2 S2 ne3 ne4
      have S3 := same_new (o := .lst (((two one other).map S).map V.str)) (same_new (o := .lst [.str (S one), .str (S other)]) (Same.refl H3) ne3) ne4
      have hq4 : (upd (upd H3 e3 (.lst [.str (S one), .str (S other)])) e4 (.lst (((two one other).map S).map V.str))) e4 = some (.lst (((two one other).map S).map V.str)) := upd_same
      generalize upd (upd H3 e3 (.lst [.str (S one), .str (S other)])) e4 (.lst (((two one other).map S).map V.str)) = H4 at hq4 S3
      refine ⟨.list ((two t3.1 t3.2.1).map strD), .list ((two one other).map strD), .lst (SqL.of (S3 _ _ hq2)) (DtAll.dp (dt_strs _ _)), .lst (SqL.of hq4) (DtAll.dp (dt_strs _ _)), two_ok (fine.ok _ ti.1) (fine.ok _ ti.2.1), two_ok n1 n2, ?_⟩
      rw [← joins_two]
      have S4 := SM.trans (S2.trans S3)
      have hC4 := S3 _ _ (S2 _ _ hC)
      refine ⟨_, rfl, ?_⟩
      rw [flt_snoc et]
      by_cases cj : joins one other t3 = true
      · refine iteT' cj ?_
        rw [if_pos cj, List.map_append]
        refine ⟨_, rfl, _, hC4, ?_, same_put S4 nC, upd_same⟩
        rw [List.length_map]
        have := List.length_filter_le (joins one other) (ts.take i)
        rw [List.length_take] at this
        exact sz_lt (by omega)
      · refine iteF' (by simpa using cj) ?_
        rw [if_neg cj, List.append_nil]
        exact ⟨S4, hC4⟩
    · obtain ⟨S2, hC⟩ := hP
      have vl : vs.length = ts.length := by
        have := DtAll.len hA
        rwa [List.length_map] at this
      rw [vl, List.take_length] at hC
      have hh := find_head (P := joins one other) ts
      refine ⟨_, rfl, r, _, rfl, SqT.of (S2 _ _ hr2), rfl, _, _, rfl, _, _, rfl, rfl, ?_⟩
      obtain ⟨i1, i2⟩ := idx_at nd m1
      obtain ⟨j1, j2⟩ := idx_at nd m2
      refine ⟨fun σ' H3 => ∃ t0 rest, ts.filter (joins one other) = t0 :: rest ∧ pl.idxOf one < pl.idxOf other ∧ σ' = [some (.ref t), some (.ref L), some (.ref g), some (.ref a), some (.ref b), some (.str (S one)), some (.str (S other)), some (.ref r), some (.ref C), some (.int above), some (.int below), none, none, none, none, none, none, none] ∧ Same H2 H3, ?_, fun σ' H3 hM => ?_⟩
      · refine ⟨_, rfl, Nat.zero_le _, fun e ne => ?_⟩
        have S3 := same_new (o := .lst []) (Same.refl H2) ne
        have eds : ((ts.filter (joins one other)).map fun t => V.int t.2.2) = ((ts.filter (joins one other)).map (·.2.2)).map V.int := by rw [List.map_map]; rfl
        refine ⟨.list (((ts.filter (joins one other)).map (·.2.2)).map .int), .list [], .lst (SqL.of (S3 _ _ hC)) (by rw [eds]; exact DtAll.dp (dts_I _ _)), .lst (SqL.of upd_same) .nil, ints_shaped _, rfl, _, rfl, ?_⟩
        cases ef : ts.filter (joins one other) with
        | nil =>
          refine iteT' rfl (iteT (no _ ?_ (S2.trans S3)))
          rw [ef] at hh
          unfold isPt
          rw [if_neg c]
          show (if below < 1 then false else if _ then false else match ts.find? (joins one other) with | none => false | some t => _) = false
          rw [← hh]
          show (if below < 1 then false else if _ then false else false) = false
          split
          · rfl
          · split <;> rfl
        | cons t0 rest =>
          rw [ef] at hh
          refine iteF' rfl ?_
          refine ⟨_, rfl, a, _, o, rfl, od, S3 _ _ (S2 _ _ haz), _, rfl, rfl, _, _, rfl, i1, i2, _, rfl, a, _, o, rfl, od, S3 _ _ (S2 _ _ haz), _, rfl, rfl, _, _, rfl, j1, j2, _, _, rfl, rfl, _, rfl, ?_⟩
          have idn : pl.idxOf one ≠ pl.idxOf other := fun e => c (by
            rw [e, j1] at i1
            exact (SX.S_inj (Option.some.inj i1)).symm)
          by_cases c1 : pl.idxOf one < pl.idxOf other
          · refine iteF' (decide_eq_false (by omega)) ⟨t0, rest, rfl, c1, rfl, S3⟩
          · refine iteT' (decide_eq_true (by omega)) (no _ ?_ (S2.trans S3))
            unfold isPt
            rw [if_neg c]
            show (if below < 1 then false else if _ then false else match ts.find? (joins one other) with | none => false | some t => decide (0 < above) && decide (above < t.2.2 * below) && decide (pl.idxOf one < pl.idxOf other)) = false
            rw [← hh]
            show (if below < 1 then false else if _ then false else decide (0 < above) && decide (above < t0.2.2 * below) && decide (pl.idxOf one < pl.idxOf other)) = false
            rw [decide_eq_false c1, Bool.and_false]
            split
            · rfl
            · split <;> rfl
      obtain ⟨t0, rest, ef, cx, rfl, S3⟩ := hM
      rw [ef] at hh
      have hf : ts.find? (joins one other) = some t0 := hh.symm
      have hC3 := S3 _ _ hC
      rw [ef] at hC3
      have etl := tie_len fine.tree c (List.mem_of_find?_eq_some hf) (List.find?_some hf)
      have eP : isPt pl ts (one, other, above, below) = if below < 1 then false else if ((Nat.gcd above.natAbs below.natAbs : Nat) : Int) ≠ 1 then false else (decide (0 < above) && decide (above < dist ts one other * below)) := by
        unfold isPt
        rw [if_neg c]
        show (if below < 1 then false else if ((Nat.gcd above.natAbs below.natAbs : Nat) : Int) ≠ 1 then false else match ts.find? (joins one other) with | none => false | some t => decide (0 < above) && decide (above < t.2.2 * below) && decide (pl.idxOf one < pl.idxOf other)) = _
        rw [hf, etl]
        show (if below < 1 then false else if ((Nat.gcd above.natAbs below.natAbs : Nat) : Int) ≠ 1 then false else decide (0 < above) && decide (above < t0.2.2 * below) && decide (pl.idxOf one < pl.idxOf other)) = _
        rw [decide_eq_true cx, Bool.and_true]
      rw [List.map_cons, ← etl] at hC3
      generalize (rest.map fun t => V.int t.2.2) = restV at hC3
      have S23 := S2.trans S3
      refine ⟨fun σ' H4 => ¬ below < 1 ∧ ((Nat.gcd above.natAbs below.natAbs : Nat) : Int) = 1 ∧ σ' = [some (.ref t), some (.ref L), some (.ref g), some (.ref a), some (.ref b), some (.str (S one)), some (.str (S other)), some (.ref r), some (.ref C), some (.int above), some (.int below), none, none, none, none, none, none, none] ∧ Same H3 H4, ?_, fun σ' H4 hM => ?_⟩
      · refine ⟨_, rfl, _, _, rfl, rfl, _, rfl, ?_⟩
        by_cases c1 : below < 1
        · exact iteT' (decide_eq_true c1) (iteT (no _ (by rw [eP, if_pos c1]) S23))
        · refine iteF' (decide_eq_false c1) ?_
          refine ⟨_, rfl, _, rfl, above, below, rfl, by omega, fun H4 S4 => ⟨rfl, _, rfl, ?_⟩⟩
          by_cases c2 : ((Nat.gcd above.natAbs below.natAbs : Nat) : Int) = 1
          · refine iteF' ?_ ⟨c1, c2, rfl, S4⟩
            rw [c2]
            rfl
          · refine iteT' ?_ (no _ (by rw [eP, if_neg c1, if_pos c2]) (S23.trans S4))
            rw [decide_eq_false fun z => c2 (V.int.inj z)]
            rfl
      obtain ⟨c1, c2, rfl, S4⟩ := hM
      rw [if_neg c1, if_neg (fun z => z c2)] at eP
      have hC4 := S4 _ _ hC3
      have S24 := S23.trans S4
      refine ⟨fun σ' H5 => (0 < above ∧ above < dist ts one other * below) ∧ σ' = [some (.ref t), some (.ref L), some (.ref g), some (.ref a), some (.ref b), some (.str (S one)), some (.str (S other)), some (.ref r), some (.ref C), some (.int above), some (.int below), none, none, none, none, none, none, none] ∧ H5 = H4, ?_, fun σ' H5 hM => ?_⟩
      · refine ⟨_, rfl, _, _, rfl, rfl, _, rfl, ?_⟩
        by_cases d1 : above < 1
        · exact iteT' (decide_eq_true d1) (iteT (no _ (by rw [eP, decide_eq_false (by omega : ¬ 0 < above), Bool.false_and]) S24))
        · refine iteF' (decide_eq_false d1) ?_
          refine ⟨_, rfl, _, rfl, C, _, 0, .int (dist ts one other), rfl, rfl, SqL.of hC4, atI_nat (j := 0) rfl, _, rfl, _, _, rfl, rfl, .inr hbd, _, _, rfl, rfl, _, rfl, ?_⟩
          by_cases d2 : above < dist ts one other * below
          · exact iteF' (decide_eq_false (by omega)) ⟨⟨by omega, d2⟩, rfl, rfl⟩
          · exact iteT' (decide_eq_true (by omega)) (no _ (by rw [eP, decide_eq_false d2, Bool.and_false]) S24)
      obtain ⟨⟨d1, d2⟩, rfl, rfl⟩ := hM
      rw [decide_eq_true d1, decide_eq_true d2] at eP
      refine ⟨Nat.zero_le _, fun D nD => ?_⟩
      have S5 := same_new (o := .lst []) (Same.refl H5) nD
      have hD0 : (upd H5 D (.lst [])) D = some (.lst []) := upd_same
      generalize upd H5 D (.lst []) = H6 at S5 hD0
      refine ⟨fun σ' H' => ∃ (x12 x13 x14 : Option V) (ws : List V), σ' = [some (.ref t), some (.ref L), some (.ref g), some (.ref a), some (.ref b), some (.str (S one)), some (.str (S other)), some (.ref r), some (.ref C), some (.int above), some (.int below), some (.ref D), x12, x13, x14, none, none, none] ∧ Same H5 H' ∧ H' D = some (.lst ws) ∧ DtAll H' ws (pl.map fun y => aftD (dbl ts (one, other, above, below) y) below), ?_, fun σ' H' hM => ?_⟩
      rotate_left
      · obtain ⟨x12, x13, x14, ws, rfl, S7, hD, hW⟩ := hM
        exact ⟨_, rfl, q H' (.ref D) (S24.trans S7) (.inr ⟨eP, D, ws, rfl, hD, hW⟩)⟩
      · have haz6 := S5 _ _ (S24 _ _ haz)
        have rows6 := rows.keep (S24.trans S5)
        refine ⟨_, rfl, _, rfl, a, _, o, rfl, od, haz6, _, rfl, rfl, _, _, rfl, i1, i2, L, _, ((pl.idxOf one : Nat) : Int), .ref (ad one), rfl, rfl, SqL.of rows6.all, sl m1, ?_⟩
        refine ⟨_, rfl, _, rfl, a, _, o, rfl, od, haz6, _, rfl, rfl, _, _, rfl, j1, j2, L, _, ((pl.idxOf other : Nat) : Int), .ref (ad other), rfl, rfl, SqL.of rows6.all, sl m2, ?_⟩
        refine ⟨ad one, ad other, _, _, rfl, SqL.of (rows6.each one m1), SqL.of (rows6.each other m2), RZ.for_zipL (K := K) (a := ad one) (b := ad other) (xs := pl.map fun x => .int (dist ts one x)) (ys := pl.map fun x => .int (dist ts other x)) (by simp) (fun i σ' H' => ∃ (x12 x13 x14 : Option V) (ws : List V), σ' = [some (.ref t), some (.ref L), some (.ref g), some (.ref a), some (.ref b), some (.str (S one)), some (.str (S other)), some (.ref r), some (.ref C), some (.int above), some (.int below), some (.ref D), x12, x13, x14, none, none, none] ∧ Same H5 H' ∧ H' D = some (.lst ws) ∧ ws.length = i ∧ DtAll H' ws ((pl.take i).map fun y => aftD (dbl ts (one, other, above, below) y) below))
          ⟨none, none, none, [], rfl, S5, hD0, rfl, .nil⟩ (fun i σ' H' hP => ?_) (fun i x y T1 σ' H' hx hy hP nT => ?_) (fun σ' H' hP => ?_)⟩
        · obtain ⟨_, _, _, _, _, S7, _⟩ := hP
          exact ⟨SqL.of (S7 _ _ ((rows.keep S24).each one m1)), SqL.of (S7 _ _ ((rows.keep S24).each other m2))⟩
        · obtain ⟨x12, x13, x14, ws, rfl, S7, hD, wl, hW⟩ := hP
          rw [List.getElem?_map] at hx hy
          cases hnm : pl[i]? with
          | none => rw [hnm] at hx; cases hx
          | some nm =>
            rw [hnm] at hx hy
            have ex : x = .int (dist ts one nm) := (Option.some.inj hx).symm
            have ey : y = .int (dist ts other nm) := (Option.some.inj hy).symm
            subst ex ey
            have il := (List.getElem?_eq_some_iff.mp hnm).1
            have W1 := same_new (o := .tup [.int (dist ts one nm), .int (dist ts other nm)]) (Same.refl H') nT
            have hT : (upd H' T1 (.tup [.int (dist ts one nm), .int (dist ts other nm)])) T1 = some (.tup [.int (dist ts one nm), .int (dist ts other nm)]) := upd_same
            generalize upd H' T1 (.tup [.int (dist ts one nm), .int (dist ts other nm)]) = H8 at W1 hT
            have S8 := S7.trans W1
            have hD8 := W1 _ _ hD
            have hC8 := S8 _ _ hC4
            refine ⟨T1, _, rfl, SqT.of hT, rfl, _, _, rfl, _, _, rfl, rfl, ?_⟩
            refine ⟨_, rfl, _, rfl, _, _, rfl, rfl, .inr hbd, _, rfl, _, _, rfl, rfl, ?_⟩
            refine ⟨_, rfl, _, rfl, C, _, 0, .int (dist ts one other), rfl, rfl, SqL.of hC8, atI_nat (j := 0) rfl, _, _, rfl, rfl, _, rfl, _, _, rfl, rfl, .inr hbd, _, rfl, _, _, rfl, rfl, ?_⟩
            refine ⟨_, _, rfl, ?_⟩
            refine ⟨_, rfl, .inl ⟨rfl, _, SqL.of hD8⟩, _, rfl, _, _, rfl, rfl, .inl ⟨by decide, by decide⟩, _, rfl, (by show 2 ≤ sizeLine; decide), fun e ne => ?_⟩
            have hD9 := (same_new (o := .tup [.int (dbl ts (one, other, above, below) nm), .int below]) (Same.refl H8) ne) _ _ hD8
            refine ⟨D, ws, _, rfl, rfl, hD9, sz_lt (by omega), ?_⟩
            have tk : TK (upd H8 e (.tup [.int (dbl ts (one, other, above, below) nm), .int below])) (upd (upd H8 e (.tup [.int (dbl ts (one, other, above, below) nm), .int below])) D (.lst (ws ++ [.ref e]))) := TK.mut hD9
            refine ⟨_, _, _, ws ++ [.ref e], rfl, same_put (same_new S8 ne) nD, upd_same, by rw [List.length_append, wl]; rfl, ?_⟩
            rw [List.take_add_one, hnm, List.map_append]
            exact DtAll.app (DtAll.keep (((TK.of W1).trans (TK.new ne)).trans tk) hW) (.cons (.tup (tk.tup _ _ upd_same) (.cons (.int _) (.cons (.int _) .nil))) .nil)
        · obtain ⟨x12, x13, x14, ws, rfl, S7, hD, wl, hW⟩ := hP
          rw [List.length_map, List.take_length] at hW
          exact ⟨x12, x13, x14, ws, rfl, S7, hD, hW⟩
end
end Far

namespace Far
open PySem PySem.Spec PyProof.Rows L2
open C8 (pss_cut tCut)
open SX (S)
theorem ones_eqv {α : Type} (l : List α) : PyData.eqv (.list ((l.map fun _ => (1 : Int)).map .int)) (.list []) = decide (l = []) := by
  cases l with
  | nil => rfl
  | cons x r => rfl
/-- a list of data, one of them -/
theorem aft_at {H : Hp} {vs : List V} {pl : List Nm} {f : Nm → Int} {b : Int} (h : DtAll H vs (pl.map fun y => aftD (f y) b)) {y : Nm} {i : Nat} (hy : pl[i]? = some y) : ∃ e : Addr, vs[i]? = some (.ref e) ∧ H e = some (.tup [.int (f y), .int b]) := by
  have hl := DtAll.len h
  rw [List.length_map] at hl
  have il := (List.getElem?_eq_some_iff.mp hy).1
  have hv : vs[i]? = some (vs[i]'(by omega)) := List.getElem?_eq_getElem (by omega)
  obtain ⟨d, hd, hdt⟩ := DtAll.get h hv
  rw [List.getElem?_map, hy] at hd
  have ed : d = aftD (f y) b := (Option.some.inj hd).symm
  subst ed
  obtain ⟨e, xs, er, he, hs⟩ := dt_tup hdt fun _ => ⟨.int b, by simp [aftD], fun l z => nomatch z⟩
  cases hs with
  | cons h1 hr =>
    cases hr with
    | cons h2 hr =>
      cases hr
      cases h1
      cases h2
      exact ⟨e, by rw [hv, er], he⟩
abbrev s_law_due : Stmt := topS 26
abbrev N_law_due : List Str := ["tree", "lengths", "number", "paper", "point", "pair", "far", "at", "one", "length", "below"]
theorem sc_law_due : FnScope N_law_due ["tree", "lengths", "number", "paper"] (defScope s_law_due) := ⟨rfl, rfl, rfl, by decide +kernel, rfl, by decide +kernel, by decide +kernel⟩
section
variable {P : Program} {w : World} {K : PySem.W.Frag} {mg : Str → Option Value} {base : Heap}
def spDueP : Sp := fun vs H Q _ => ∃ (v u : V) (n : Int) (pl : List Nm) (ts : List Tie) (x : Pap) (L : Addr) (ad : Nm → Addr), vs = [v, .ref L, .int n, u] ∧ Dt H v (treeD pl ts) ∧ PlZ H v pl ∧ Fine pl ts ∧ RowsAt H L pl pl ts ad ∧ Dt H u (papD x) ∧ NameOk x.1.1 ∧ NameOk x.1.2.1 ∧ (-(2 ^ 64) < x.1.2.2.2 ∧ x.1.2.2.2 < 2 ^ 64) ∧ ∀ H' : Hp, Same H H' → Q (.bl (shown pl ts n x)) H'
theorem ok_due {f : Addr} {fd : FuncData} (F : Fun K "_law_due" "_law_due" s_law_due f fd) (T : TxtM mg) (C_law_from_point : Cal P w K mg base 2 "_law_from_point" spFromP) : FnOk P w K mg base CX0 3 f fd ["tree", "lengths", "number", "paper"] spDueP := by
  refine F.ok sc_law_due (fun vs H Q E h => ?_) (fun cdv A outer s H vs Q E hr h => ?_)
  · obtain ⟨v, u, n, pl, ts, x, L, ad, rfl, _⟩ := h
    rfl
  · obtain ⟨v, u, n, pl, ts, ⟨pt, x1, x2⟩, L, ad, rfl, hd, hz, fine, rows, hu, n1, n2, hb, q⟩ := h
    obtain ⟨t, a, b, vs, rfl, ht, ha, hb', hA⟩ := dt_tree hd
    obtain ⟨g, r, up, rfl, hg, hp, hr2⟩ := dt_pap hu
    dsimp only at n1 n2 hb hg hp hr2 q
    have pll := fine.len
    have nd := fine.tree.nodup
    obtain ⟨t0, a0, b0, o, e0, ht0, od, haz⟩ := id hz
    cases e0
    cases Option.some.inj (ht0.symm.trans ht)
    have fin : ∀ (b : Bool) (H' : Hp), shown pl ts n (pt, x1, x2) = b → Same H H' → Q (.bl b) H' := fun b H' e S => by
      rw [← e]
      exact q H' S
    have no : ¬ (x1 ∈ pl ∧ x2 ∈ pl ∧ dist ts x1 x2 = n ∧ dbl ts pt x1 = n * pt.2.2.2 ∧ dbl ts pt x2 = n * pt.2.2.2 ∧ ∀ y ∈ pl, dbl ts pt y ≤ n * pt.2.2.2) → shown pl ts n (pt, x1, x2) = false := fun h => by
      unfold shown
      dsimp only
      rw [decide_eq_false h, Bool.and_false]
    refine ⟨_, (pss_cons (ps_asg (pv 3) (pg_tup rfl (pgs_cons (pg_name (i := 4) sc_law_due.nd rfl (.inl rfl)) (pgs_cons (pg_name (i := 5) sc_law_due.nd rfl (.inl rfl)) pgs_nil))))
      (pss_cons (ps_set (i := 6) sc_law_due.nd rfl (.inr rfl) (pe_c C_law_from_point hr (by decide) rfl (pa_cons (pv 0) (pa_cons (pv 1) (pa_cons (pv 4) pa_nil)))))
      (pss_cut (ps_if (PW.pt (pw_or (pt_cmpR op_isN (pv 6) pe_non (nomark _)) (pw_or (pt_cmpR op_notIn_seq (pe_ix ix_tup (pv 5) pe_int (fun _ _ => rfl)) (pe_ix ix_tup (pv 0) pe_int (fun _ _ => rfl)) rfl) (pw_or1 (pt_cmpR op_notIn_seq (pe_ix ix_tup (pv 5) pe_int (fun _ _ => rfl)) (pe_ix ix_tup (pv 0) pe_int (fun _ _ => rfl)) rfl)))))
        (pss_one (ps_ret pe_bl))
        pss_nil)
      (pss_cons (ps_setLc (i := 7) (own := [("one", 8)]) (g := gName 8) (tt := tYes) rfl sc_law_due.nd rfl rfl (sw_true rfl rfl rfl (by decide +kernel)) (pi_tup (pv 5)) (blkOk_by (N := N_law_due) (sc := defScope s_law_due) (by decide +kernel)) (fun _ _ _ _ _ => pg_name (i := 8) sc_law_due.nd rfl (Or.inl rfl)) (fun _ _ _ _ _ => pts_nil) (fun _ _ _ _ _ => (pe_ixZ (pe_ix (ixt (K := K)) (pv 0) pe_int (fun _ _ => rfl)) (pv 8))))
      (pss_cut (ps_if (pt_cmpR op_ne (pe_ix ix_list (pe_ix ix_list (pv 1) (pe_ix ix_list (pv 7) pe_int (fun _ _ => rfl)) (fun _ _ => rfl)) (pe_ix ix_list (pv 7) pe_int (fun _ _ => rfl)) (fun _ _ => rfl)) (pv 2) (nomark _))
        (pss_one (ps_ret pe_bl))
        pss_nil)
      (pss_cut (ps_if (pt_cmpR (op_neD (hd_of hr (by decide))) (pe_lc (own := [("one", 8)]) (g := gName 8)  rfl sc_law_due.nd (pi_list (pv 7)) (blkOk_by (N := N_law_due) (sc := defScope s_law_due) (by decide +kernel)) (fun _ _ _ _ _ => pg_name (i := 8) sc_law_due.nd rfl (Or.inl rfl)) (fun _ _ _ _ _ => pts_one (pt_cmpR op_ne (pe_ix (ixt (K := K)) (pe_ix (ixl (K := K)) (pv 6) (pv 8) (fun _ _ => rfl)) pe_int (fun _ _ => rfl)) (pe_op op_mul (pv 2) (pe_ix (ixt (K := K)) (pe_ix (ixl (K := K)) (pv 6) (pv 8) (fun _ _ => rfl)) pe_int (fun _ _ => rfl))) (nomark _))) (fun _ _ _ _ _ => pe_int)) (pe_lst pa_nil) (nomark _))
        (pss_one (ps_ret pe_bl))
        pss_nil)
      (pss_one (ps_ret (pe_cmpR (op_eqD (hd_of hr (by decide))) (pe_lc (own := [("length", 9), ("below", 10)]) (g := gTup K 2 (gCons (gName 9) (gCons (gName 10) gNil)))  rfl sc_law_due.nd (pi_list (pv 6)) (blkOk_by (N := N_law_due) (sc := defScope s_law_due) (by decide +kernel)) (fun _ _ _ _ _ => (pg_tup rfl (pgs_cons (pg_name (i := 9) sc_law_due.nd rfl (.inl rfl)) (pgs_cons (pg_name (i := 10) sc_law_due.nd rfl (.inl rfl)) pgs_nil)))) (fun _ _ _ _ _ => pts_one (pt_cmpR op_gt (pv 9) (pe_op op_mul (pv 2) (pv 10)) (nomark _))) (fun _ _ _ _ _ => pe_int)) (pe_lst pa_nil) (nomark _)))))))))), ?_⟩
    refine ⟨_, rfl, g, _, rfl, SqT.of hg, rfl, _, _, rfl, _, _, rfl, rfl, ?_⟩
    refine ⟨_, rfl, _, rfl, _, rfl, .ref t, up, pl, ts, pt, L, ad, rfl, hd, hz, fine, rows, hp, n1, n2, hb, fun H1 far S1 hfar => ?_⟩
    have pd0 : atI [V.str (S x1), V.str (S x2)] 0 = some (.str (S x1)) := atI_nat (j := 0) rfl
    have pd1 : atI [V.str (S x1), V.str (S x2)] 1 = some (.str (S x2)) := atI_nat (j := 1) rfl
    refine ⟨fun σ' H' => (isPt pl ts pt = true ∧ x1 ∈ pl ∧ x2 ∈ pl) ∧ (∃ (fa : Addr) (vs : List V), far = .ref fa ∧ H1 fa = some (.lst vs) ∧ DtAll H1 vs (pl.map fun y => aftD (dbl ts pt y) pt.2.2.2)) ∧ σ' = [some (.ref t), some (.ref L), some (.int n), some (.ref g), some up, some (.ref r), some far, none, none, none, none] ∧ H' = H1, ?_, fun σ' H2 hM => ?_⟩
    · refine ⟨_, rfl, rfl, _, rfl, ?_⟩
      rcases hfar with ⟨e0, rfl⟩ | ⟨e1, fa, fvs, rfl, hfa, hfd⟩
      · refine iteT' rfl (iteT (fin _ _ ?_ S1))
        unfold shown
        dsimp only
        rw [e0, Bool.false_and]
      · refine iteF' rfl ?_
        have hr2' := hr2.same S1
        refine ⟨_, rfl, r, _, 0, _, rfl, rfl, hr2'.sq, pd0, _, rfl, t, _, 0, .ref a, rfl, rfl, SqT.of (S1 _ _ ht), atI_nat (j := 0) rfl, a, _, rfl, .inr (ha.same S1).sq, rfl, flat_strs pl, _, rfl, ?_⟩
        rw [inV_strs]
        by_cases c1 : x1 ∈ pl
        · refine iteF' (by rw [decide_eq_true c1]; rfl) ?_
          refine ⟨_, rfl, r, _, 1, _, rfl, rfl, hr2'.sq, pd1, _, rfl, t, _, 0, .ref a, rfl, rfl, SqT.of (S1 _ _ ht), atI_nat (j := 0) rfl, a, _, rfl, .inr (ha.same S1).sq, rfl, flat_strs pl, _, rfl, ?_⟩
          rw [inV_strs]
          by_cases c2 : x2 ∈ pl
          · exact iteF' (by rw [decide_eq_true c2]; rfl) ⟨⟨e1, c1, c2⟩, ⟨fa, fvs, rfl, hfa, hfd⟩, rfl, rfl⟩
          · exact iteT' (by rw [decide_eq_false c2]; rfl) (fin _ _ (no fun z => c2 z.2.1) S1)
        · exact iteT' (by rw [decide_eq_false c1]; rfl) (iteT (fin _ _ (no fun z => c1 z.1) S1))
    obtain ⟨⟨cp, m1, m2⟩, ⟨fa, fvs, rfl, hfa, hfd⟩, rfl, rfl⟩ := hM
    have fl : fvs.length = pl.length := by
      have := DtAll.len hfd
      rwa [List.length_map] at this
    obtain ⟨i1, i2⟩ := idx_at nd m1
    obtain ⟨j1, j2⟩ := idx_at nd m2
    have g1 : pl[pl.idxOf x1]? = some x1 := by
      have h1 : pl.idxOf x1 < pl.length := List.idxOf_lt_length_of_mem m1
      rw [List.getElem?_eq_getElem h1, List.getElem_idxOf h1]
    have g2 : pl[pl.idxOf x2]? = some x2 := by
      have h1 : pl.idxOf x2 < pl.length := List.idxOf_lt_length_of_mem m2
      rw [List.getElem?_eq_getElem h1, List.getElem_idxOf h1]
    -- at
    refine ⟨_, rfl, r, rfl, ⟨_, (hr2.same S1).sq⟩, fun D nD => ?_⟩
    refine lc_tup (K := K) (a := r) (xs := [.str (S x1), .str (S x2)]) (fun i H' => Same H2 H' ∧ H' D = some (.lst (([V.int (pl.idxOf x1 : Nat), V.int (pl.idxOf x2 : Nat)] : List V).take i))) ⟨same_new (Same.refl _) nD, upd_same⟩ (fun i H' _ hP => (hr2.same (S1.trans hP.1)).sq) (fun i v H' hi hP => ?_) (fun H3 hP => ?_)
    · obtain ⟨SM, hD⟩ := hP
      have hc : (i = 0 ∧ v = .str (S x1)) ∨ (i = 1 ∧ v = .str (S x2)) := by
        match i, hi with
        | 0, hi => exact .inl ⟨rfl, (Option.some.inj hi).symm⟩
        | 1, hi => exact .inr ⟨rfl, (Option.some.inj hi).symm⟩
      rcases hc with ⟨rfl, rfl⟩ | ⟨rfl, rfl⟩
      · refine ⟨rfl, _, rfl, t, _, 0, .ref a, rfl, rfl, SqT.of (SM _ _ (S1 _ _ ht)), atI_nat (j := 0) rfl, a, _, o, rfl, od, SM _ _ (S1 _ _ haz), _, rfl, rfl, _, _, rfl, i1, i2, ?_⟩
        exact ⟨_, hD, (by show 0 < sizeLine; decide), same_put SM nD, upd_same⟩
      · refine ⟨rfl, _, rfl, t, _, 0, .ref a, rfl, rfl, SqT.of (SM _ _ (S1 _ _ ht)), atI_nat (j := 0) rfl, a, _, o, rfl, od, SM _ _ (S1 _ _ haz), _, rfl, rfl, _, _, rfl, j1, j2, ?_⟩
        exact ⟨_, hD, (by show 1 < sizeLine; decide), same_put SM nD, upd_same⟩
    obtain ⟨S3, hD⟩ := hP
    have hD : H3 D = some (.lst [V.int (pl.idxOf x1 : Nat), V.int (pl.idxOf x2 : Nat)]) := hD
    have S13 := S1.trans S3
    have rows3 := rows.keep S13
    have a0' : atI [V.int (pl.idxOf x1 : Nat), V.int (pl.idxOf x2 : Nat)] 0 = some (.int (pl.idxOf x1 : Nat)) := atI_nat (j := 0) rfl
    have a1' : atI [V.int (pl.idxOf x1 : Nat), V.int (pl.idxOf x2 : Nat)] 1 = some (.int (pl.idxOf x2 : Nat)) := atI_nat (j := 1) rfl
    refine ⟨fun σ' H' => dist ts x1 x2 = n ∧ σ' = [some (.ref t), some (.ref L), some (.int n), some (.ref g), some up, some (.ref r), some (.ref fa), some (.ref D), none, none, none] ∧ H' = H3, ?_, fun σ' H4 hM => ?_⟩
    · refine ⟨_, rfl, _, rfl, D, _, 0, _, rfl, rfl, SqL.of hD, a0', L, _, _, .ref (ad x1), rfl, rfl, SqL.of rows3.all, atI_nat (by rw [List.getElem?_map, g1]; rfl), ?_⟩
      refine ⟨_, rfl, D, _, 1, _, rfl, rfl, SqL.of hD, a1', ad x1, _, _, .int (dist ts x1 x2), rfl, rfl, SqL.of (rows3.each x1 m1), atI_nat (by rw [List.getElem?_map, g2]; rfl), _, rfl, rfl, _, rfl, ?_⟩
      by_cases c : dist ts x1 x2 = n
      · exact iteF' (by rw [c, decide_eq_true rfl]; rfl) ⟨c, rfl, rfl⟩
      · exact iteT' (by rw [decide_eq_false fun z => c (V.int.inj z)]; rfl) (fin _ _ (no fun z => c z.2.2.1) S13)
    obtain ⟨cl, rfl, rfl⟩ := hM
    have hfd3 := DtAll.keep (TK.of S3) hfd
    have hfa3 := S3 _ _ hfa
    -- the two ends
    refine ⟨fun σ' H' => (dbl ts pt x1 = n * pt.2.2.2 ∧ dbl ts pt x2 = n * pt.2.2.2) ∧ σ' = [some (.ref t), some (.ref L), some (.int n), some (.ref g), some up, some (.ref r), some (.ref fa), some (.ref D), none, none, none] ∧ Same H4 H', ?_, fun σ' H5 hM => ?_⟩
    · refine ⟨_, rfl, D, rfl, ⟨_, SqL.of hD⟩, fun C nC => ?_⟩
      refine lc_list (K := K) (a := D) (xs := [V.int (pl.idxOf x1 : Nat), V.int (pl.idxOf x2 : Nat)]) (fun i H' => Same H4 H' ∧ H' C = some (.lst (((([x1, x2] : List Nm).take i).filter fun y => decide (dbl ts pt y ≠ n * pt.2.2.2)).map fun _ => .int 1))) ⟨same_new (Same.refl _) nC, upd_same⟩ (fun i H' _ hP => SqL.of (hP.1 _ _ hD)) (fun i v H' hi hP => ?_) (fun H5 hP => ?_)
      · obtain ⟨SM, hC⟩ := hP
        obtain ⟨y, gy, ei, rfl⟩ : ∃ y, pl[pl.idxOf y]? = some y ∧ ([x1, x2] : List Nm).take (i + 1) = ([x1, x2] : List Nm).take i ++ [y] ∧ v = .int (pl.idxOf y : Nat) := by
          match i, hi with
          | 0, hi => exact ⟨x1, g1, rfl, (Option.some.inj hi).symm⟩
          | 1, hi => exact ⟨x2, g2, rfl, (Option.some.inj hi).symm⟩
        obtain ⟨e, ge, he⟩ := aft_at (DtAll.keep (TK.of SM) hfd3) gy
        refine ⟨rfl, _, rfl, _, rfl, fa, _, _, .ref e, rfl, rfl, SqL.of (SM _ _ hfa3), atI_nat ge, e, _, 0, _, rfl, rfl, SqT.of he, atI_nat (j := 0) rfl, ?_⟩
        refine ⟨_, rfl, _, rfl, _, rfl, fa, _, _, .ref e, rfl, rfl, SqL.of (SM _ _ hfa3), atI_nat ge, e, _, 1, _, rfl, rfl, SqT.of he, atI_nat (j := 1) rfl, _, _, rfl, rfl, .inr hb, rfl, _, rfl, ?_⟩
        rw [flt_snoc ei]
        by_cases c : dbl ts pt y = n * pt.2.2.2
        · refine iteF' (by rw [c, decide_eq_true rfl]; rfl) ?_
          rw [if_neg (by rw [decide_eq_true_eq]; exact fun z => z c), List.append_nil]
          exact ⟨SM, hC⟩
        · refine iteT' (by rw [decide_eq_false fun z => c (V.int.inj z)]; rfl) ?_
          rw [if_pos (decide_eq_true c), List.map_append]
          refine ⟨_, hC, ?_, same_put SM nC, upd_same⟩
          rw [List.length_map]
          have := List.length_filter_le (fun y => decide (dbl ts pt y ≠ n * pt.2.2.2)) (([x1, x2] : List Nm).take i)
          rw [List.length_take] at this
          exact sz_lt (by simp only [List.length_cons, List.length_nil] at this; omega)
      · obtain ⟨SM, hC⟩ := hP
        refine ⟨Nat.zero_le _, fun e ne => ?_⟩
        have SM2 := same_new (o := .lst []) SM ne
        have hC2 := (same_new (o := .lst []) (Same.refl H5) ne) _ _ hC
        have eds : ((([x1, x2] : List Nm).filter fun y => decide (dbl ts pt y ≠ n * pt.2.2.2)).map fun _ => V.int 1) = (((([x1, x2] : List Nm).filter fun y => decide (dbl ts pt y ≠ n * pt.2.2.2)).map fun _ => (1 : Int)).map V.int) := by rw [List.map_map]; rfl
        refine ⟨.list (((([x1, x2] : List Nm).filter fun y => decide (dbl ts pt y ≠ n * pt.2.2.2)).map fun _ => (1 : Int)).map .int), .list [], .lst (SqL.of hC2) (by show DpAll K _ ((([x1, x2] : List Nm).filter fun y => decide (dbl ts pt y ≠ n * pt.2.2.2)).map fun _ => V.int 1) _; rw [eds]; exact DtAll.dp (dts_I _ _)), .lst (SqL.of upd_same) .nil, ints_shaped _, rfl, ?_⟩
        rw [ones_eqv]
        refine ⟨_, rfl, ?_⟩
        by_cases c : dbl ts pt x1 = n * pt.2.2.2 ∧ dbl ts pt x2 = n * pt.2.2.2
        · refine iteF' ?_ ⟨c, rfl, SM2⟩
          rw [decide_eq_true (List.filter_eq_nil_iff.mpr fun y hy => ?_)]
          · rfl
          · simp only [List.mem_cons, List.not_mem_nil, or_false] at hy
            rw [decide_eq_true_eq]
            rcases hy with rfl | rfl
            · exact fun z => z c.1
            · exact fun z => z c.2
        · refine iteT' ?_ (fin _ _ (no fun z => c ⟨z.2.2.2.1, z.2.2.2.2.1⟩) (S13.trans SM2))
          rw [decide_eq_false fun z => c ?_]
          · rfl
          · have hn := List.filter_eq_nil_iff.mp z
            have k1 := hn x1 (by simp)
            have k2 := hn x2 (by simp)
            rw [decide_eq_true_eq] at k1 k2
            exact ⟨Classical.not_not.mp k1, Classical.not_not.mp k2⟩
    obtain ⟨⟨c1, c2⟩, rfl, S5⟩ := hM
    have hfd5 := DtAll.keep (TK.of S5) hfd3
    have hfa5 := S5 _ _ hfa3
    refine ⟨_, rfl, fa, rfl, ⟨_, SqL.of hfa5⟩, fun C nC => ?_⟩
    refine lc_list (K := K) (a := fa) (xs := fvs) (fun i H' => Same H5 H' ∧ H' C = some (.lst (((pl.take i).filter fun y => decide (dbl ts pt y > n * pt.2.2.2)).map fun _ => .int 1))) ⟨same_new (Same.refl _) nC, upd_same⟩ (fun i H' _ hP => SqL.of (hP.1 _ _ hfa5)) (fun i v H' hi hP => ?_) (fun H6 hP => ?_)
    · obtain ⟨SM, hC⟩ := hP
      have il : i < pl.length := by
        have := (List.getElem?_eq_some_iff.mp hi).1
        omega
      have gy : pl[i]? = some pl[i] := List.getElem?_eq_getElem il
      generalize pl[i] = y at gy
      have et : pl.take (i + 1) = pl.take i ++ [y] := by rw [List.take_add_one, gy]; rfl
      obtain ⟨e, ge, he⟩ := aft_at (DtAll.keep (TK.of SM) hfd5) gy
      have ev : v = .ref e := Option.some.inj (hi.symm.trans ge)
      subst ev
      refine ⟨e, _, rfl, SqT.of he, rfl, _, _, rfl, _, _, rfl, rfl, rfl, ?_⟩
      refine ⟨_, rfl, _, rfl, _, rfl, _, _, rfl, rfl, .inr hb, _, _, rfl, rfl, _, rfl, ?_⟩
      rw [flt_snoc et]
      by_cases c : dbl ts pt y > n * pt.2.2.2
      · refine iteT' (decide_eq_true c) ?_
        rw [if_pos (decide_eq_true c), List.map_append]
        refine ⟨_, hC, ?_, same_put SM nC, upd_same⟩
        rw [List.length_map]
        have := List.length_filter_le (fun y => decide (dbl ts pt y > n * pt.2.2.2)) (pl.take i)
        rw [List.length_take] at this
        exact sz_lt (by omega)
      · refine iteF' (decide_eq_false c) ?_
        rw [if_neg (by rw [decide_eq_true_eq]; exact c), List.append_nil]
        exact ⟨SM, hC⟩
    · obtain ⟨SM, hC⟩ := hP
      rw [fl, List.take_length] at hC
      refine ⟨Nat.zero_le _, fun e ne => ?_⟩
      have SM2 := same_new (o := .lst []) SM ne
      have hC2 := (same_new (o := .lst []) (Same.refl H6) ne) _ _ hC
      have eds : ((pl.filter fun y => decide (dbl ts pt y > n * pt.2.2.2)).map fun _ => V.int 1) = (((pl.filter fun y => decide (dbl ts pt y > n * pt.2.2.2)).map fun _ => (1 : Int)).map V.int) := by rw [List.map_map]; rfl
      refine ⟨.list (((pl.filter fun y => decide (dbl ts pt y > n * pt.2.2.2)).map fun _ => (1 : Int)).map .int), .list [], .lst (SqL.of hC2) (by rw [eds]; exact DtAll.dp (dts_I _ _)), .lst (SqL.of upd_same) .nil, ints_shaped _, rfl, ?_⟩
      rw [ones_eqv]
      refine fin _ _ ?_ (S13.trans (S5.trans SM2))
      unfold shown
      dsimp only
      rw [cp, Bool.true_and]
      refine decide_eq_decide.mpr ⟨fun z => List.filter_eq_nil_iff.mpr fun y hy => ?_, fun z => ⟨m1, m2, cl, c1, c2, fun y hy => ?_⟩⟩
      · rw [decide_eq_true_eq]
        have := z.2.2.2.2.2 y hy
        omega
      · have := List.filter_eq_nil_iff.mp z y hy
        rw [decide_eq_true_eq] at this
        omega
end
end Far

namespace Far
open PySem PySem.Spec PyProof.Rows L2
open C8 (pss_cut tCut)
open SX (S)
/-- from the first heap nothing but the deck is changed, and its draws are counted -/
structure Kep (d : Addr) (H0 H : Hp) (k : Nat) : Prop where
  sm : SmX d H0 H
  tk : TK H0 H
  sd : SeedAt H d k
theorem Kep.refl {d : Addr} {H : Hp} {k : Nat} (s : SeedAt H d k) : Kep d H H k := ⟨SmX.refl _, TK.refl _, s⟩
theorem Kep.new {d p : Addr} {H0 H : Hp} {k : Nat} {o : HO} (h : Kep d H0 H k) (n : H p = none) : Kep d H0 (upd H p o) k := ⟨h.sm.new n, h.tk.trans (TK.new n), h.sd.new n⟩
theorem Kep.draw {d : Addr} {H0 H H' : Hp} {k k' : Nat} (h : Kep d H0 H k) (s : SmX d H H') (sd : SeedAt H' d k') : Kep d H0 H' k' := by
  obtain ⟨xs, hx⟩ := h.sd.lst
  exact ⟨h.sm.trans s, h.tk.trans (s.tk hx), sd⟩
theorem Kep.same {d : Addr} {H0 H H' : Hp} {k : Nat} (h : Kep d H0 H k) (s : Same H H') : Kep d H0 H' k := by
  obtain ⟨a, f, n, m, e1, e2⟩ := h.sd
  exact ⟨h.sm.trans fun b o _ hb => s b o hb, h.tk.trans (TK.of s), ⟨a, f, n, m, s _ _ e1, e2⟩⟩
theorem Kep.mono {d : Addr} {H0 H : Hp} {k m : Nat} (h : Kep d H0 H k) (l : k ≤ m) : Kep d H0 H m := ⟨h.sm, h.tk, h.sd.mono l⟩
theorem TupAt.tk {H H' : Hp} {a : Addr} {xs : List V} (h : TupAt H a xs) (t : TK H H') : TupAt H' a xs := h.elim (fun h => .inl (t.tup _ _ h)) fun ⟨o, d, h⟩ => .inr ⟨o, d, t.frz _ _ _ h⟩
/-- a list of points -/
def PsAt (H : Hp) (l : Addr) (ps : List Pt) : Prop := ∃ ws, H l = some (.lst ws) ∧ DtAll H ws (ps.map ptD)
theorem PsAt.new {H : Hp} {l p : Addr} {o : HO} {ps : List Pt} (h : PsAt H l ps) (n : H p = none) : PsAt (upd H p o) l ps := by
  obtain ⟨ws, h1, h2⟩ := h
  exact ⟨ws, by rw [upd_ne (ne_of_none h1 n)]; exact h1, DtAll.keep (TK.new n) h2⟩
theorem PsAt.draw {H H' : Hp} {l d : Addr} {ps : List Pt} {k : Nat} (h : PsAt H l ps) (nd : l ≠ d) (sd : SeedAt H d k) (s : SmX d H H') : PsAt H' l ps := by
  obtain ⟨ws, h1, h2⟩ := h
  obtain ⟨xs, hx⟩ := sd.lst
  exact ⟨ws, s _ _ nd h1, DtAll.keep (s.tk hx) h2⟩
theorem PsAt.cat {H : Hp} {l m : Addr} {ps qs : List Pt} (h1 : PsAt H l ps) (h2 : PsAt H m qs) : ∃ ws zs, H l = some (.lst ws) ∧ H m = some (.lst zs) ∧ ws.length = ps.length ∧ zs.length = qs.length ∧ ∀ p, H p = none → PsAt (upd H p (.lst (ws ++ zs))) p (ps ++ qs) := by
  obtain ⟨ws, a1, a2⟩ := h1
  obtain ⟨zs, b1, b2⟩ := h2
  have l1 := DtAll.len a2
  have l2 := DtAll.len b2
  rw [List.length_map] at l1 l2
  exact ⟨ws, zs, a1, b1, l1, l2, fun p n => ⟨ws ++ zs, upd_same, by rw [List.map_append]; exact DtAll.keep (TK.new n) (DtAll.app a2 b2)⟩⟩
theorem pt_made {H : Hp} {r e : Addr} {x y : Nm} {a b : Int} (hr : H r = some (.tup [.int a, .int b])) (ne : H e = none) : Dt (upd H e (.tup [.str (S x), .str (S y), .ref r])) (.ref e) (ptD (x, y, a, b)) :=
  .tup upd_same (.cons (.str _) (.cons (.str _) (.cons (.tup ((TK.new ne).tup _ _ hr) (.cons (.int _) (.cons (.int _) .nil))) .nil)))
theorem PsAt.same {H H' : Hp} {l : Addr} {ps : List Pt} (h : PsAt H l ps) (s : Same H H') : PsAt H' l ps := by
  obtain ⟨ws, h1, h2⟩ := h
  exact ⟨ws, s _ _ h1, DtAll.keep (TK.of s) h2⟩
/-- a point whose part is made as well -/
theorem Kep.pt {d e1 e2 : Addr} {H0 H : Hp} {k : Nat} {x y : Nm} {a b : Int} (h : Kep d H0 H k) (ne1 : H e1 = none) (ne2 : (upd H e1 (.tup [.int a, .int b])) e2 = none) :
    Kep d H0 (upd (upd H e1 (.tup [.int a, .int b])) e2 (.tup [.str (S x), .str (S y), .ref e1])) k ∧ Dt (upd (upd H e1 (.tup [.int a, .int b])) e2 (.tup [.str (S x), .str (S y), .ref e1])) (.ref e2) (ptD (x, y, a, b)) ∧ Same H (upd (upd H e1 (.tup [.int a, .int b])) e2 (.tup [.str (S x), .str (S y), .ref e1])) :=
  ⟨(h.new ne1).new ne2, pt_made upd_same ne2, same_new (same_new (Same.refl H) ne1) ne2⟩
theorem ties_shaped {pl : List Nm} {ts : List Tie} (F : Fine pl ts) : SeqAt.shaped (.tuple (ts.map tieD)) = true := by
  have key : ∀ l : List Tie, (∀ t ∈ l, NameOk t.1 ∧ NameOk t.2.1) → PyData.canLayAll0 (l.map tieD) = true ∧ PyData.depthAll (l.map tieD) ≤ 1 := by
    intro l
    induction l with
    | nil => exact fun _ => ⟨rfl, Nat.zero_le _⟩
    | cons t r ih =>
      intro h
      obtain ⟨h1, h2⟩ := h t (List.mem_cons_self ..)
      obtain ⟨i1, i2⟩ := ih fun y hy => h y (List.mem_cons_of_mem _ hy)
      constructor
      · show ((PyData.strOk (S t.1) && (PyData.strOk (S t.2.1) && (true && true))) && PyData.canLayAll0 (r.map tieD)) = true
        rw [strOk_S h1, strOk_S h2, i1]
        rfl
      · show max (max 0 (max 0 (max 0 0)) + 1) (PyData.depthAll (r.map tieD)) ≤ 1
        omega
  obtain ⟨i1, i2⟩ := key ts fun t ht => ⟨F.ok _ (F.tree.ties t ht).1, F.ok _ (F.tree.ties t ht).2.1⟩
  show (PyData.canLayAll0 (ts.map tieD) && decide (PyData.depthAll (ts.map tieD) + 1 ≤ 64)) = true
  rw [i1, decide_eq_true (by omega)]
  rfl
/-- names that are names, a below that is not too great -/
def PtOk (B : Int) (p : Pt) : Prop := NameOk p.1 ∧ NameOk p.2.1 ∧ -B ≤ p.2.2.2 ∧ p.2.2.2 ≤ B
abbrev s_law_bent_point : Stmt := topS 27
abbrev N_law_bent_point : List Str := ["seed", "tree", "point", "places", "ties", "one", "other", "part", "place", "some", "more", "sign", "begin", "end", "length", "pair", "low", "high"]
theorem sc_law_bent_point : FnScope N_law_bent_point ["seed", "tree", "point"] (defScope s_law_bent_point) := ⟨rfl, rfl, rfl, by decide +kernel, rfl, by decide +kernel, by decide +kernel⟩
section
variable {P : Program} {w : World} {K : PySem.W.Frag} {mg : Str → Option Value} {base : Heap}
def spBentP : Sp := fun vs H Q _ => ∃ (d : Addr) (v u : V) (k : Nat) (pl : List Nm) (ts : List Tie) (p : Pt) (B : Int), vs = [.ref d, v, u] ∧ SeedAt H d k ∧ k < 90000 ∧ Dt H v (treeD pl ts) ∧ PlZ H v pl ∧ Fine pl ts ∧ Dt H u (ptD p) ∧ PtOk B p ∧ 2 ≤ B ∧
  ∀ (H' : Hp) (r : V) (p' : Pt), Kep d H H' (k + 10) → Dt H' r (ptD p') → PtOk (2 * B + 1000000) p' → Q r H'
theorem ok_bent_point {f : Addr} {fd : FuncData} (F : Fun K "_law_bent_point" "_law_bent_point" s_law_bent_point f fd) (T : TxtM mg) (C_law_draw : Cal P w K mg base 1 "_law_draw" spDraw) : FnOk P w K mg base CX0 2 f fd ["seed", "tree", "point"] spBentP := by
  refine F.ok sc_law_bent_point (fun vs H Q E h => ?_) (fun cdv A outer s H vs Q E hr h => ?_)
  · obtain ⟨d, v, u, k, pl, ts, p, B, rfl, _⟩ := h
    rfl
  · obtain ⟨d, v, u, k, pl, ts, ⟨one, other, above, below⟩, B, rfl, SD, hk, hd, hz, fine, hu, ⟨n1, n2, b1, b2⟩, B2, q⟩ := h
    obtain ⟨t, a, b, vs, rfl, ht, ha, hb', hA⟩ := dt_tree hd
    obtain ⟨g, r, rfl, hg, hr2⟩ := dt_pt hu
    dsimp only at n1 n2 hg hr2 b1 b2
    obtain ⟨t0, a0, b0, o, e0, ht0, od, haz⟩ := id hz
    cases e0
    cases Option.some.inj (ht0.symm.trans ht)
    have nd := fine.tree.nodup
    have pll := fine.len
    have tll := fine.tree.len
    have plp : 0 < pl.length := List.length_pos_iff.mpr fine.ne
    have vl : vs.length = ts.length := by
      have := DtAll.len hA
      rwa [List.length_map] at this
    have e6 : (10 : Int) ^ (6 : Int).toNat = 1000000 := by decide
    refine ⟨_, (pss_cons (ps_asg (pv 1) (pg_tup rfl (pgs_cons (pg_name (i := 3) sc_law_bent_point.nd rfl (.inl rfl)) (pgs_cons (pg_name (i := 4) sc_law_bent_point.nd rfl (.inl rfl)) pgs_nil))))
      (pss_cons (ps_asg (pv 2) (pg_tup rfl (pgs_cons (pg_name (i := 5) sc_law_bent_point.nd rfl (.inl rfl)) (pgs_cons (pg_name (i := 6) sc_law_bent_point.nd rfl (.inl rfl)) (pgs_cons (pg_name (i := 7) sc_law_bent_point.nd rfl (.inl rfl)) pgs_nil)))))
      (pss_cons (ps_set (i := 8) sc_law_bent_point.nd rfl (.inl rfl) (pe_ix ix_tup (pv 3) (pe_c C_law_draw hr (by decide) rfl (pa_cons (pv 0) (pa_cons (pe_callB call_len_seq (by rfl) T.len bt_len (pa_cons (pv 3) pa_nil)) pa_nil))) (fun _ _ => rfl)))
      (pss_cons (ps_set (i := 9) sc_law_bent_point.nd rfl (.inl rfl) (pe_lst (pa_cons (pe_tup (pa_cons (pv 8) (pa_cons (pv 8) (pa_cons (pe_tup (pa_cons pe_int (pa_cons pe_int pa_nil))) pa_nil)))) (pa_cons (pe_tup (pa_cons (pv 5) (pa_cons (pv 8) (pa_cons (pv 7) pa_nil)))) (pa_cons (pe_tup (pa_cons (pv 6) (pa_cons (pv 5) (pa_cons (pv 7) pa_nil)))) (pa_cons (pe_tup (pa_cons (pv 5) (pa_cons (pv 6) (pa_cons (pe_tup (pa_cons (pe_op op_mul pe_int (pe_ix ix_tup (pv 7) pe_int (fun _ _ => rfl))) (pa_cons (pe_op op_mul pe_int (pe_ix ix_tup (pv 7) pe_int (fun _ _ => rfl))) pa_nil))) pa_nil)))) pa_nil))))))
      (pss_cons (ps_set (i := 10) sc_law_bent_point.nd rfl (.inl rfl) (pe_ix ix_list (pe_lst (pa_cons pe_int (pa_cons pe_int (pa_cons (pe_op op_add pe_int (pe_c C_law_draw hr (by decide) rfl (pa_cons (pv 0) (pa_cons (pe_op op_pow pe_int pe_int) pa_nil)))) pa_nil)))) (pe_c C_law_draw hr (by decide) rfl (pa_cons (pv 0) (pa_cons pe_int pa_nil))) (fun _ _ => rfl)))
      (pss_cut (ps_set (i := 11) sc_law_bent_point.nd rfl (.inl rfl) (pe_ix ix_list (pe_lst (pa_cons pe_int (pa_cons (pe_un un_neg pe_int) pa_nil))) (pe_c C_law_draw hr (by decide) rfl (pa_cons (pv 0) (pa_cons pe_int pa_nil))) (fun _ _ => rfl)))
      (pss_cut (ps_set (i := 9) sc_law_bent_point.nd rfl (.inl rfl) (pe_op op_cat (pv 9) (pe_lst (pa_cons (pe_tup (pa_cons (pv 5) (pa_cons (pv 6) (pa_cons (pe_tup (pa_cons (pe_op op_add (pe_ix ix_tup (pv 7) pe_int (fun _ _ => rfl)) (pe_op op_mul (pv 10) (pv 11))) (pa_cons (pe_ix ix_tup (pv 7) pe_int (fun _ _ => rfl)) pa_nil))) pa_nil)))) (pa_cons (pe_tup (pa_cons (pv 5) (pa_cons (pv 6) (pa_cons (pe_tup (pa_cons (pe_ix ix_tup (pv 7) pe_int (fun _ _ => rfl)) (pa_cons (pe_op op_add (pe_ix ix_tup (pv 7) pe_int (fun _ _ => rfl)) (pe_op op_mul (pv 10) (pv 11))) pa_nil))) pa_nil)))) pa_nil)))))
      (pss_cons (ps_set (i := 9) sc_law_bent_point.nd rfl (.inl rfl) (pe_op op_cat (pv 9) (pe_lst (pa_cons (pe_tup (pa_cons (pv 5) (pa_cons (pv 6) (pa_cons (pe_tup (pa_cons pe_int (pa_cons pe_int pa_nil))) pa_nil)))) (pa_cons (pe_tup (pa_cons (pv 5) (pa_cons (pv 6) (pa_cons (pe_tup (pa_cons (pe_op op_sub pe_int (pe_ix ix_tup (pv 7) pe_int (fun _ _ => rfl))) (pa_cons (pe_op op_sub pe_int (pe_ix ix_tup (pv 7) pe_int (fun _ _ => rfl))) pa_nil))) pa_nil)))) (pa_cons (pe_tup (pa_cons (pv 5) (pa_cons (pv 6) (pa_cons (pe_tup (pa_cons (pe_ix ix_tup (pv 7) pe_int (fun _ _ => rfl)) (pa_cons pe_int pa_nil))) pa_nil)))) pa_nil))))))
      (pss_cut (ps_if (pt_cmpR (op_neD (hd_of hr (by decide))) (pv 4) (pe_tup pa_nil) (nomark _))
        (pss_cons (ps_asg (pe_ix ix_tup (pv 4) (pe_c C_law_draw hr (by decide) rfl (pa_cons (pv 0) (pa_cons (pe_callB call_len_seq (by rfl) T.len bt_len (pa_cons (pv 4) pa_nil)) pa_nil))) (fun _ _ => rfl)) (pg_tup rfl (pgs_cons (pg_name (i := 12) sc_law_bent_point.nd rfl (.inl rfl)) (pgs_cons (pg_name (i := 13) sc_law_bent_point.nd rfl (.inl rfl)) (pgs_cons (pg_name (i := 14) sc_law_bent_point.nd rfl (.inl rfl)) pgs_nil)))))
        (pss_cons (ps_set (i := 15) sc_law_bent_point.nd rfl (.inl rfl) (pe_callB cr_sortedI (by rfl) T.sorted bt_sorted (pa_cons (pe_lst (pa_cons (pe_ixZ (pv 3) (pv 12)) (pa_cons (pe_ixZ (pv 3) (pv 13)) pa_nil))) pa_nil)))
        (pss_cut (ps_par (i := 16) (j := 17) rfl sc_law_bent_point.nd rfl rfl (by decide) rfl rfl (pa_cons (pe_ix ix_tup (pv 3) (pe_ix ix_list (pv 15) pe_int (fun _ _ => rfl)) (fun _ _ => rfl)) (pa_cons (pe_ix ix_tup (pv 3) (pe_ix ix_list (pv 15) pe_int (fun _ _ => rfl)) (fun _ _ => rfl)) pa_nil)) rfl)
        (pss_cut (ps_set (i := 9) sc_law_bent_point.nd rfl (.inl rfl) (pe_op op_cat (pv 9) (pe_lst (pa_cons (pe_tup (pa_cons (pv 16) (pa_cons (pv 17) (pa_cons (pe_tup (pa_cons (pv 14) (pa_cons pe_int pa_nil))) pa_nil)))) (pa_cons (pe_tup (pa_cons (pv 16) (pa_cons (pv 17) (pa_cons (pe_tup (pa_cons (pe_op op_add pe_int (pe_c C_law_draw hr (by decide) rfl (pa_cons (pv 0) (pa_cons (pv 14) pa_nil)))) (pa_cons pe_int pa_nil))) pa_nil)))) (pa_cons (pe_tup (pa_cons (pv 16) (pa_cons (pv 17) (pa_cons (pv 7) pa_nil)))) pa_nil))))))
        (pss_one (ps_set (i := 9) sc_law_bent_point.nd rfl (.inl rfl) (pe_op op_cat (pv 9) (pe_lst (pa_cons (pe_tup (pa_cons (pv 16) (pa_cons (pv 17) (pa_cons (pe_tup (pa_cons pe_int (pa_cons pe_int pa_nil))) pa_nil)))) (pa_cons (pe_tup (pa_cons (pv 16) (pa_cons (pv 17) (pa_cons (pe_tup (pa_cons (pv 14) (pa_cons pe_int pa_nil))) pa_nil)))) (pa_cons (pe_tup (pa_cons (pv 17) (pa_cons (pv 16) (pa_cons (pe_tup (pa_cons (pv 14) (pa_cons pe_int pa_nil))) pa_nil)))) pa_nil)))))))))))
        pss_nil)
      (pss_one (ps_ret (pe_ix ix_list (pv 9) (pe_c C_law_draw hr (by decide) rfl (pa_cons (pv 0) (pa_cons (pe_callB call_len_seq (by rfl) T.len bt_len (pa_cons (pv 9) pa_nil)) pa_nil))) (fun _ _ => rfl))))))))))))), ?_⟩
    refine ⟨_, rfl, t, _, rfl, SqT.of ht, rfl, _, _, rfl, _, _, rfl, rfl, ?_⟩
    refine ⟨_, rfl, g, _, rfl, SqT.of hg, rfl, _, _, rfl, _, _, rfl, _, _, rfl, rfl, ?_⟩
    -- place
    refine ⟨_, rfl, _, rfl, _, rfl, a, _, rfl, .inr ha.sq, d, k, _, rfl, SD, by omega, ?_, ?_, fun H1 r1 x0 x1 S1 D1 => ?_⟩
    · rw [List.length_map, List.length_map]
      omega
    · rw [List.length_map, List.length_map]
      omega
    have K1 := (Kep.refl SD).draw S1 D1
    obtain ⟨v, hv, mv⟩ := atI_in x0 x1
    obtain ⟨place, hpl, rfl⟩ := strs_at mv
    have npl := fine.ok _ hpl
    refine ⟨a, _, r1, _, rfl, rfl, (ha.tk K1.tk).sq, hv, ?_⟩
    -- the first four
    refine ⟨_, rfl, _, rfl, (by show 2 ≤ sizeLine; decide), fun e1 ne1 => ⟨(by show 3 ≤ sizeLine; decide), fun e2 ne2 => ?_⟩⟩
    have K2 := K1.new (o := .tup [.int 0, .int 1]) ne1
    have p1 := pt_made (x := place) (y := place) (upd_same (H := H1) (a := e1) (o := .tup [.int 0, .int 1])) ne2
    have K3 := K2.new (o := .tup [.str (S place), .str (S place), .ref e1]) ne2
    generalize upd (upd H1 e1 (.tup [.int 0, .int 1])) e2 (.tup [.str (S place), .str (S place), .ref e1]) = H3 at p1 K3
    refine ⟨_, rfl, _, rfl, _, rfl, (by show 3 ≤ sizeLine; decide), fun e3 ne3 => ?_⟩
    have p2 := pt_made (x := one) (y := place) (K3.tk.tup _ _ hr2) ne3
    have p1 := Dt.keep (TK.new (o := .tup [.str (S one), .str (S place), .ref r]) ne3) p1
    have K4 := K3.new (o := .tup [.str (S one), .str (S place), .ref r]) ne3
    generalize upd H3 e3 (.tup [.str (S one), .str (S place), .ref r]) = H4 at p1 p2 K4
    refine ⟨_, rfl, _, rfl, _, rfl, (by show 3 ≤ sizeLine; decide), fun e4 ne4 => ?_⟩
    have p3 := pt_made (x := other) (y := one) (K4.tk.tup _ _ hr2) ne4
    have tk4 := TK.new (o := .tup [.str (S other), .str (S one), .ref r]) ne4
    have p1 := Dt.keep tk4 p1
    have p2 := Dt.keep tk4 p2
    have K5 := K4.new (o := .tup [.str (S other), .str (S one), .ref r]) ne4
    generalize upd H4 e4 (.tup [.str (S other), .str (S one), .ref r]) = H5 at p1 p2 p3 K5
    have hr5 := K5.tk.tup _ _ hr2
    refine ⟨_, rfl, _, rfl, _, rfl, r, _, 0, _, rfl, rfl, SqT.of hr5, atI_nat (j := 0) rfl, _, _, rfl, rfl, .inl ⟨by decide, by decide⟩, _, rfl, r, _, 1, _, rfl, rfl, SqT.of hr5, atI_nat (j := 1) rfl, _, _, rfl, rfl, .inl ⟨by decide, by decide⟩, (by show 2 ≤ sizeLine; decide), fun e5 ne5 => ⟨(by show 3 ≤ sizeLine; decide), fun e6' ne6 => ⟨(by show 4 ≤ sizeLine; decide), fun l nl => ?_⟩⟩⟩
    have p4 := pt_made (x := one) (y := other) (upd_same (H := H5) (a := e5) (o := .tup [.int (2 * above), .int (2 * below)])) ne6
    have tk6 := (TK.new (o := .tup [.int (2 * above), .int (2 * below)]) ne5).trans (TK.new (o := .tup [.str (S one), .str (S other), .ref e5]) ne6)
    have p1 := Dt.keep tk6 p1
    have p2 := Dt.keep tk6 p2
    have p3 := Dt.keep tk6 p3
    have K6 := (K5.new (o := .tup [.int (2 * above), .int (2 * below)]) ne5).new (o := .tup [.str (S one), .str (S other), .ref e5]) ne6
    generalize upd (upd H5 e5 (.tup [.int (2 * above), .int (2 * below)])) e6' (.tup [.str (S one), .str (S other), .ref e5]) = H6 at p1 p2 p3 p4 K6 nl
    have K7 := K6.new (o := .lst [.ref e2, .ref e3, .ref e4, .ref e6']) nl
    have P7 : PsAt (upd H6 l (.lst [.ref e2, .ref e3, .ref e4, .ref e6'])) l [(place, place, 0, 1), (one, place, above, below), (other, one, above, below), (one, other, 2 * above, 2 * below)] :=
      ⟨_, upd_same, DtAll.keep (TK.new nl) (.cons p1 (.cons p2 (.cons p3 (.cons p4 .nil))))⟩
    have ld : l ≠ d := K6.sd.nd nl
    have ok7 : ∀ p ∈ ([(place, place, 0, 1), (one, place, above, below), (other, one, above, below), (one, other, 2 * above, 2 * below)] : List Pt), PtOk (2 * B + 1000000) p := by
      intro p hp
      simp only [List.mem_cons, List.not_mem_nil, or_false] at hp
      rcases hp with rfl | rfl | rfl | rfl
      · exact ⟨npl, npl, (by show -(2 * B + 1000000) ≤ 1; omega), (by show 1 ≤ 2 * B + 1000000; omega)⟩
      · exact ⟨n1, npl, (by show -(2 * B + 1000000) ≤ below; omega), (by show below ≤ 2 * B + 1000000; omega)⟩
      · exact ⟨n2, n1, (by show -(2 * B + 1000000) ≤ below; omega), (by show below ≤ 2 * B + 1000000; omega)⟩
      · exact ⟨n1, n2, (by show -(2 * B + 1000000) ≤ 2 * below; omega), (by show 2 * below ≤ 2 * B + 1000000; omega)⟩
    generalize upd H6 l (.lst [.ref e2, .ref e3, .ref e4, .ref e6']) = H7 at K7 P7
    have l7 : ([(place, place, 0, 1), (one, place, above, below), (other, one, above, below), (one, other, 2 * above, 2 * below)] : List Pt).length = 4 := rfl
    generalize ([(place, place, 0, 1), (one, place, above, below), (other, one, above, below), (one, other, 2 * above, 2 * below)] : List Pt) = ps7 at P7 ok7 l7
    clear p1 p2 p3 p4 K2 K3 K4 K5 K6
    -- more
    refine ⟨_, rfl, _, _, rfl, rfl, ⟨by decide, by decide, by decide⟩, d, _, _, rfl, K7.sd, by omega, by decide, by decide, fun H8 r8 y0 y1 S8 D8 => ⟨_, _, rfl, rfl, ?_⟩⟩
    rw [e6] at y1
    have K8 := K7.draw S8 D8
    have P8 := P7.draw ld K7.sd S8
    refine ⟨(by show 3 ≤ sizeLine; decide), fun m1 nm1 => ?_⟩
    have K9 := K8.new (o := .lst [.int 1, .int 2, .int (1 + r8)]) nm1
    have P9 := P8.new (o := .lst [.int 1, .int 2, .int (1 + r8)]) nm1
    have m1d : m1 ≠ d := K8.sd.nd nm1
    refine ⟨_, rfl, d, _, 3, rfl, K9.sd, by omega, by decide, by decide, fun H10 r10 z0 z1 S10 D10 => ?_⟩
    have hm1 : H10 m1 = some (.lst [.int 1, .int 2, .int (1 + r8)]) := S10 _ _ m1d upd_same
    have K10 := K9.draw S10 D10
    have P10 := P9.draw ld K9.sd S10
    obtain ⟨v, hv, mv⟩ := atI_in (xs := [V.int 1, .int 2, .int (1 + r8)]) z0 (by simpa using z1)
    obtain ⟨more, rfl, mo1, mo2⟩ : ∃ m : Int, v = .int m ∧ 1 ≤ m ∧ m ≤ 1000000 := by
      simp only [List.mem_cons, List.not_mem_nil, or_false] at mv
      rcases mv with e | e | e
      · exact ⟨1, e, by omega, by omega⟩
      · exact ⟨2, e, by omega, by omega⟩
      · exact ⟨_, e, by omega, by omega⟩
    refine ⟨m1, _, r10, _, rfl, rfl, SqL.of hm1, hv, ?_⟩
    refine ⟨(fun σ' H' => ∃ (place : Nm) (l : Addr) (ps : List Pt) (more sign : Int), σ' = [some (.ref d), some (.ref t), some (.ref g), some (.ref a), some (.ref b), some (.str (S one)), some (.str (S other)), some (.ref r), some (.str (S place)), some (.ref l), some (.int more), some (.int sign), none, none, none, none, none, none] ∧ NameOk place ∧ Kep d H H' (k + 4) ∧ PsAt H' l ps ∧ l ≠ d ∧ ps.length = 4 ∧ (∀ p ∈ ps, PtOk (2 * B + 1000000) p) ∧ (-1000000 ≤ more * sign ∧ more * sign ≤ 1000000) ∧ (-(2 ^ 64) < sign ∧ sign < 2 ^ 64)), ?_, fun σ' HA hM => ?_⟩
    · -- sign
      refine ⟨_, rfl, (by show 2 ≤ sizeLine; decide), fun m2 nm2 => ?_⟩
      have K11 := K10.new (o := .lst [.int 1, .int (-1)]) nm2
      have P11 := P10.new (o := .lst [.int 1, .int (-1)]) nm2
      have m2d : m2 ≠ d := K10.sd.nd nm2
      refine ⟨_, rfl, d, _, 2, rfl, K11.sd, by omega, by decide, by decide, fun H12 r12 w0 w1 S12 D12 => ?_⟩
      have hm2 : H12 m2 = some (.lst [.int 1, .int (-1)]) := S12 _ _ m2d upd_same
      have K12 := K11.draw S12 D12
      have P12 := P11.draw ld K11.sd S12
      obtain ⟨v, hv, mv⟩ := atI_in (xs := [V.int 1, .int (-1)]) w0 (by simpa using w1)
      obtain ⟨sign, rfl, sg⟩ : ∃ m : Int, v = .int m ∧ (m = 1 ∨ m = -1) := by
        simp only [List.mem_cons, List.not_mem_nil, or_false] at mv
        rcases mv with e | e
        · exact ⟨1, e, .inl rfl⟩
        · exact ⟨-1, e, .inr rfl⟩
      have sgm : -1000000 ≤ more * sign ∧ more * sign ≤ 1000000 := by
        rcases sg with rfl | rfl
        · omega
        · omega
      have hsm : (-(2 ^ 64) < sign ∧ sign < 2 ^ 64) := by
        rcases sg with rfl | rfl <;> decide
      exact ⟨m2, _, r12, _, rfl, rfl, SqL.of hm2, hv, place, l, ps7, more, sign, rfl, npl, K12, P12, ld, l7, ok7, sgm, hsm⟩
    obtain ⟨place, l, psA, more, sign, rfl, npl, KA, PA, ld, lA, okA, sgm, hsm⟩ := hM
    have hrA := KA.tk.tup _ _ hr2
    refine ⟨(fun σ' H' => ∃ (place : Nm) (l : Addr) (ps : List Pt) (more sign : Int), σ' = [some (.ref d), some (.ref t), some (.ref g), some (.ref a), some (.ref b), some (.str (S one)), some (.str (S other)), some (.ref r), some (.str (S place)), some (.ref l), some (.int more), some (.int sign), none, none, none, none, none, none] ∧ NameOk place ∧ Kep d H H' (k + 4) ∧ PsAt H' l ps ∧ l ≠ d ∧ ps.length = 6 ∧ (∀ p ∈ ps, PtOk (2 * B + 1000000) p) ∧ (-1000000 ≤ more * sign ∧ more * sign ≤ 1000000) ∧ (-(2 ^ 64) < sign ∧ sign < 2 ^ 64)), ?_, fun σ' H16 hM => ?_⟩
    · -- two more
      refine ⟨_, rfl, _, rfl, _, rfl, _, rfl, r, _, 0, _, rfl, rfl, SqT.of hrA, atI_nat (j := 0) rfl, _, rfl, _, rfl, _, _, rfl, rfl, .inr hsm, _, _, rfl, rfl, _, rfl, r, _, 1, _, rfl, rfl, SqT.of hrA, atI_nat (j := 1) rfl, (by show 2 ≤ sizeLine; decide), fun e1 ne1 => ⟨(by show 3 ≤ sizeLine; decide), fun e2 ne2 => ?_⟩⟩
      obtain ⟨K13, p1, S13⟩ := KA.pt (x := one) (y := other) ne1 ne2
      generalize upd (upd HA e1 (.tup [.int (above + more * sign), .int below])) e2 (.tup [.str (S one), .str (S other), .ref e1]) = H13 at p1 K13 S13
      have P13 := PA.same S13
      have hr13 := K13.tk.tup _ _ hr2
      refine ⟨_, rfl, _, rfl, _, rfl, r, _, 0, _, rfl, rfl, SqT.of hr13, atI_nat (j := 0) rfl, _, rfl, r, _, 1, _, rfl, rfl, SqT.of hr13, atI_nat (j := 1) rfl, _, rfl, _, rfl, _, _, rfl, rfl, .inr hsm, _, _, rfl, rfl, (by show 2 ≤ sizeLine; decide), fun e3 ne3 => ⟨(by show 3 ≤ sizeLine; decide), fun e4 ne4 => ?_⟩⟩
      obtain ⟨K14, p2, S14⟩ := K13.pt (x := one) (y := other) ne3 ne4
      generalize upd (upd H13 e3 (.tup [.int above, .int (below + more * sign)])) e4 (.tup [.str (S one), .str (S other), .ref e3]) = H14 at p2 K14 S14
      have P14 := P13.same S14
      have p1 := Dt.keep (TK.of S14) p1
      refine ⟨(by show 2 ≤ sizeLine; decide), fun m nm => ?_⟩
      have K15 := K14.new (o := .lst [.ref e2, .ref e4]) nm
      have P15 := P14.new (o := .lst [.ref e2, .ref e4]) nm
      have A15 : PsAt (upd H14 m (.lst [.ref e2, .ref e4])) m [(one, other, above + more * sign, below), (one, other, above, below + more * sign)] := ⟨_, upd_same, DtAll.keep (TK.new nm) (.cons p1 (.cons p2 .nil))⟩
      generalize upd H14 m (.lst [.ref e2, .ref e4]) = H15 at K15 P15 A15
      have ok15 : ∀ p ∈ ([(one, other, above + more * sign, below), (one, other, above, below + more * sign)] : List Pt), PtOk (2 * B + 1000000) p := by
        intro p hp
        simp only [List.mem_cons, List.not_mem_nil, or_false] at hp
        rcases hp with rfl | rfl
        · exact ⟨n1, n2, (by show -(2 * B + 1000000) ≤ below; omega), (by show below ≤ 2 * B + 1000000; omega)⟩
        · exact ⟨n1, n2, (by show -(2 * B + 1000000) ≤ below + more * sign; omega), (by show below + more * sign ≤ 2 * B + 1000000; omega)⟩
      have l15 : ([(one, other, above + more * sign, below), (one, other, above, below + more * sign)] : List Pt).length = 2 := rfl
      generalize ([(one, other, above + more * sign, below), (one, other, above, below + more * sign)] : List Pt) = ps15 at A15 ok15 l15
      obtain ⟨ws, zs, hw, hz', wl, zl, mk⟩ := P15.cat A15
      refine ⟨l, m, ws, zs, rfl, rfl, hw, hz', by rw [wl, zl, lA, l15]; exact sz_le (by omega), fun l2 nl2 => ?_⟩
      have K16 := K15.new (o := .lst (ws ++ zs)) nl2
      have P16 := mk l2 nl2
      have l2d := K15.sd.nd nl2
      generalize upd H15 l2 (.lst (ws ++ zs)) = H16 at K16 P16
      have ok16 : ∀ p ∈ psA ++ ps15, PtOk (2 * B + 1000000) p := fun p hp => (List.mem_append.mp hp).elim (okA p) (ok15 p)
      have l16 : (psA ++ ps15).length = 6 := by rw [List.length_append, lA, l15]
      generalize psA ++ ps15 = ps16 at P16 ok16 l16
      exact ⟨place, l2, ps16, more, sign, rfl, npl, K16, P16, l2d, l16, ok16, sgm, hsm⟩
    -- three more
    obtain ⟨place, l2, ps16, more, sign, rfl, npl, K16, P16, l2d, l16, ok16, sgm, hsm⟩ := hM
    have hr16 := K16.tk.tup _ _ hr2
    refine ⟨_, rfl, _, rfl, _, rfl, (by show 2 ≤ sizeLine; decide), fun e1 ne1 => ⟨(by show 3 ≤ sizeLine; decide), fun e2 ne2 => ?_⟩⟩
    obtain ⟨K17, p1, S17⟩ := K16.pt (x := one) (y := other) ne1 ne2
    generalize upd (upd H16 e1 (.tup [.int 0, .int 1])) e2 (.tup [.str (S one), .str (S other), .ref e1]) = H17 at p1 K17 S17
    have P17 := P16.same S17
    have hr17 := K17.tk.tup _ _ hr2
    refine ⟨_, rfl, _, rfl, _, rfl, r, _, 0, _, rfl, rfl, SqT.of hr17, atI_nat (j := 0) rfl, _, _, rfl, rfl, _, rfl, r, _, 1, _, rfl, rfl, SqT.of hr17, atI_nat (j := 1) rfl, _, _, rfl, rfl, (by show 2 ≤ sizeLine; decide), fun e3 ne3 => ⟨(by show 3 ≤ sizeLine; decide), fun e4 ne4 => ?_⟩⟩
    obtain ⟨K18, p2, S18⟩ := K17.pt (x := one) (y := other) ne3 ne4
    generalize upd (upd H17 e3 (.tup [.int (0 - above), .int (0 - below)])) e4 (.tup [.str (S one), .str (S other), .ref e3]) = H18 at p2 K18 S18
    have P18 := P17.same S18
    have p1 := Dt.keep (TK.of S18) p1
    have hr18 := K18.tk.tup _ _ hr2
    refine ⟨_, rfl, _, rfl, _, rfl, r, _, 0, _, rfl, rfl, SqT.of hr18, atI_nat (j := 0) rfl, (by show 2 ≤ sizeLine; decide), fun e5 ne5 => ⟨(by show 3 ≤ sizeLine; decide), fun e6 ne6 => ?_⟩⟩
    obtain ⟨K19, p3, S19⟩ := K18.pt (x := one) (y := other) ne5 ne6
    generalize upd (upd H18 e5 (.tup [.int above, .int 0])) e6 (.tup [.str (S one), .str (S other), .ref e5]) = H19 at p3 K19 S19
    have P19 := P18.same S19
    have p1 := Dt.keep (TK.of S19) p1
    have p2 := Dt.keep (TK.of S19) p2
    refine ⟨(by show 3 ≤ sizeLine; decide), fun m nm => ?_⟩
    have K20 := K19.new (o := .lst [.ref e2, .ref e4, .ref e6]) nm
    have P20 := P19.new (o := .lst [.ref e2, .ref e4, .ref e6]) nm
    have A20 : PsAt (upd H19 m (.lst [.ref e2, .ref e4, .ref e6])) m [(one, other, 0, 1), (one, other, 0 - above, 0 - below), (one, other, above, 0)] := ⟨_, upd_same, DtAll.keep (TK.new nm) (.cons p1 (.cons p2 (.cons p3 .nil)))⟩
    generalize upd H19 m (.lst [.ref e2, .ref e4, .ref e6]) = H20 at K20 P20 A20
    have ok20 : ∀ p ∈ ([(one, other, 0, 1), (one, other, 0 - above, 0 - below), (one, other, above, 0)] : List Pt), PtOk (2 * B + 1000000) p := by
      intro p hp
      simp only [List.mem_cons, List.not_mem_nil, or_false] at hp
      rcases hp with rfl | rfl | rfl
      · exact ⟨n1, n2, (by show -(2 * B + 1000000) ≤ 1; omega), (by show 1 ≤ 2 * B + 1000000; omega)⟩
      · exact ⟨n1, n2, (by show -(2 * B + 1000000) ≤ 0 - below; omega), (by show 0 - below ≤ 2 * B + 1000000; omega)⟩
      · exact ⟨n1, n2, (by show -(2 * B + 1000000) ≤ 0; omega), (by show 0 ≤ 2 * B + 1000000; omega)⟩
    have l20 : ([(one, other, 0, 1), (one, other, 0 - above, 0 - below), (one, other, above, 0)] : List Pt).length = 3 := rfl
    generalize ([(one, other, 0, 1), (one, other, 0 - above, 0 - below), (one, other, above, 0)] : List Pt) = ps20 at A20 ok20 l20
    obtain ⟨ws, zs, hw, hz', wl, zl, mk⟩ := P20.cat A20
    refine ⟨l2, m, ws, zs, rfl, rfl, hw, hz', by rw [wl, zl, l16, l20]; exact sz_le (by omega), fun l3 nl3 => ?_⟩
    have K21 := K20.new (o := .lst (ws ++ zs)) nl3
    have P21 := mk l3 nl3
    have l3d := K20.sd.nd nl3
    generalize upd H20 l3 (.lst (ws ++ zs)) = H21 at K21 P21
    have ok21 : ∀ p ∈ ps16 ++ ps20, PtOk (2 * B + 1000000) p := fun p hp => (List.mem_append.mp hp).elim (ok16 p) (ok20 p)
    have l21 : (ps16 ++ ps20).length = 9 := by rw [List.length_append, l16, l20]
    generalize ps16 ++ ps20 = ps21 at P21 ok21 l21
    clear hw hz' wl zl mk P20 A20 K20 P19 K19 K18 P18 P17 K17 P16 K16 p1 p2 p3 S17 S18 S19
    refine ⟨fun σ' H' => ∃ (l' : Addr) (ps' : List Pt) (x12 x13 x14 x15 x16 x17 : Option V), σ' = [some (.ref d), some (.ref t), some (.ref g), some (.ref a), some (.ref b), some (.str (S one)), some (.str (S other)), some (.ref r), some (.str (S place)), some (.ref l'), some (.int more), some (.int sign), x12, x13, x14, x15, x16, x17] ∧ Kep d H H' (k + 7) ∧ PsAt H' l' ps' ∧ l' ≠ d ∧ 1 ≤ ps'.length ∧ ps'.length ≤ 20 ∧ ∀ p ∈ ps', PtOk (2 * B + 1000000) p, ?_, fun σ' H' hM => ?_⟩
    rotate_left
    · obtain ⟨l', ps', x12, x13, x14, x15, x16, x17, rfl, KE, PE, ld', q1, q2, okE⟩ := hM
      obtain ⟨ws, hws, hwd⟩ := id PE
      have wl := DtAll.len hwd
      rw [List.length_map] at wl
      refine ⟨_, rfl, _, rfl, _, rfl, l', _, rfl, .inl (SqL.of hws), d, _, _, rfl, KE.sd, by omega, by omega, by omega, fun H22 r22 v0 v1 S22 D22 => ?_⟩
      have K22 := KE.draw S22 D22
      obtain ⟨xs, hx⟩ := KE.sd.lst
      obtain ⟨v, hv, mv⟩ := atI_in v0 v1
      obtain ⟨i, hi⟩ := List.getElem?_of_mem mv
      obtain ⟨dd, hdd, hvd⟩ := DtAll.get (DtAll.keep (S22.tk hx) hwd) hi
      rw [List.getElem?_map] at hdd
      cases ep : ps'[i]? with
      | none => rw [ep] at hdd; cases hdd
      | some p' =>
        rw [ep] at hdd
        have ed : dd = ptD p' := (Option.some.inj hdd).symm
        subst ed
        exact ⟨l', _, r22, v, rfl, rfl, SqL.of (S22 _ _ ld' hws), hv, q _ _ p' (K22.mono (by omega)) hvd (okE p' (List.mem_of_getElem? ep))⟩
    · refine ⟨_, rfl, Nat.zero_le _, fun e ne => ?_⟩
      have K22 := K21.new (o := .tup []) ne
      have P22 := P21.new (o := .tup []) ne
      refine ⟨.tuple (ts.map tieD), .tuple [], Dt.dp (.tup (K22.tk.tup _ _ hb') (DtAll.keep K22.tk hA)), Dt.dp (.tup upd_same .nil), ties_shaped fine, rfl, _, rfl, ?_⟩
      have etn : PyData.eqv (.tuple (ts.map tieD)) (.tuple []) = decide (ts = []) := by
        cases ts with
        | nil => rfl
        | cons x y => rfl
      rw [etn]
      generalize upd H21 e (.tup []) = H22 at K22 P22
      by_cases ct : ts = []
      · exact iteF' (by rw [decide_eq_true ct]; rfl) ⟨l3, ps21, _, _, _, _, _, _, rfl, K22.mono (by omega), P22, l3d, by omega, by omega, ok21⟩
      refine iteT' (by rw [decide_eq_false ct]; rfl) ?_
      have tpos : 0 < ts.length := List.length_pos_iff.mpr ct
      refine ⟨_, rfl, _, rfl, _, rfl, b, _, rfl, .inr (SqT.of (K22.tk.tup _ _ hb')), d, _, _, rfl, K22.sd, by omega, by rw [vl]; omega, by rw [vl]; omega, fun H23 r23 u0 u1 S23 D23 => ?_⟩
      have K23 := K22.draw S23 D23
      have P23 := P22.draw l3d K22.sd S23
      obtain ⟨v, hv, mv⟩ := atI_in u0 u1
      obtain ⟨i, hi⟩ := List.getElem?_of_mem mv
      obtain ⟨⟨bg, en, len⟩, p3, ht3, rfl, hp3⟩ := tie_at (DtAll.keep K23.tk hA) hi
      have ti := fine.tree.ties _ (List.mem_of_getElem? ht3)
      dsimp only at ti hp3
      obtain ⟨mb, me, le1, le2⟩ := ti
      refine ⟨b, _, r23, _, rfl, rfl, SqT.of (K23.tk.tup _ _ hb'), hv, p3, _, rfl, SqT.of hp3, rfl, _, _, rfl, _, _, rfl, _, _, rfl, rfl, ?_⟩
      obtain ⟨i1, i2⟩ := idx_at nd mb
      obtain ⟨j1, j2⟩ := idx_at nd me
      have haz23 := K23.tk.frz _ _ _ haz
      refine ⟨_, rfl, a, _, o, rfl, od, haz23, _, rfl, rfl, _, _, rfl, i1, i2, _, rfl, a, _, o, rfl, od, haz23, _, rfl, rfl, _, _, rfl, j1, j2, (by show 2 ≤ sizeLine; decide), fun q1 nq1 => ?_⟩
      have K24 := K23.new (o := .lst [.int (pl.idxOf bg : Nat), .int (pl.idxOf en : Nat)]) nq1
      have P24 := P23.new (o := .lst [.int (pl.idxOf bg : Nat), .int (pl.idxOf en : Nat)]) nq1
      refine ⟨q1, [((pl.idxOf bg : Nat) : Int), ((pl.idxOf en : Nat) : Int)], rfl, SqL.of upd_same, fun ns' q2 perm rise nq2 => ?_⟩
      have K25 := K24.new (o := .lst (ns'.map V.int)) nq2
      have P25 := P24.new (o := .lst (ns'.map V.int)) nq2
      have hq2 : (upd (upd H23 q1 (.lst [.int (pl.idxOf bg : Nat), .int (pl.idxOf en : Nat)])) q2 (.lst (ns'.map V.int))) q2 = some (.lst (ns'.map V.int)) := upd_same
      generalize upd (upd H23 q1 (.lst [.int (pl.idxOf bg : Nat), .int (pl.idxOf en : Nat)])) q2 (.lst (ns'.map V.int)) = H25 at K25 P25 hq2
      have nmz : ∀ z : Int, z ∈ ns' → ∃ nm, NameOk nm ∧ atI ((pl.map S).map V.str) z = some (.str (S nm)) := fun z hz => by
        have hm := perm.mem_iff.mp hz
        simp only [List.mem_cons, List.not_mem_nil, or_false] at hm
        rcases hm with rfl | rfl
        · exact ⟨bg, fine.ok _ mb, atI_nat (by rw [List.getElem?_map, i1]; rfl)⟩
        · exact ⟨en, fine.ok _ me, atI_nat (by rw [List.getElem?_map, j1]; rfl)⟩
      obtain ⟨x, y, rfl⟩ : ∃ x y, ns' = [x, y] := by
        have hl := perm.length_eq
        match ns', hl with
        | [x, y], _ => exact ⟨x, y, rfl⟩
      obtain ⟨low, nlow, at1⟩ := nmz x (by simp)
      obtain ⟨high, nhigh, at2⟩ := nmz y (by simp)
      refine ⟨(fun σ' H' => ∃ (bg en : Nm) (l : Addr) (ps : List Pt) (len : Int) (q : Addr) (low high : Nm), σ' = [some (.ref d), some (.ref t), some (.ref g), some (.ref a), some (.ref b), some (.str (S one)), some (.str (S other)), some (.ref r), some (.str (S place)), some (.ref l), some (.int more), some (.int sign), some (.str (S bg)), some (.str (S en)), some (.int len), some (.ref q), some (.str (S low)), some (.str (S high))] ∧ 1 ≤ len ∧ len ≤ 1000000 ∧ NameOk low ∧ NameOk high ∧ Kep d H H' (k + 5) ∧ PsAt H' l ps ∧ l ≠ d ∧ ps.length = 9 ∧ ∀ p ∈ ps, PtOk (2 * B + 1000000) p), ?_, fun σ' HC hM => ?_⟩
      · refine ⟨_, rfl, _, rfl, q2, _, 0, .int x, rfl, rfl, SqL.of hq2, atI_nat (j := 0) rfl, a, _, x, .str (S low), rfl, rfl, (ha.tk K25.tk).sq, at1, ?_⟩
        refine ⟨_, rfl, _, rfl, q2, _, 1, .int y, rfl, rfl, SqL.of hq2, atI_nat (j := 1) rfl, a, _, y, .str (S high), rfl, rfl, (ha.tk K25.tk).sq, at2, ?_⟩
        exact ⟨_, _, rfl, bg, en, l3, ps21, len, q2, low, high, rfl, le1, le2, nlow, nhigh, K25, P25, l3d, l21, ok21⟩
      obtain ⟨bg, en, lC, psC, len, q2, low, high, rfl, le1, le2, nlow, nhigh, KC, PC, lCd, lC9, okC⟩ := hM
      refine ⟨(fun σ' H' => ∃ (bg en : Nm) (l : Addr) (ps : List Pt) (len : Int) (q : Addr) (low high : Nm), σ' = [some (.ref d), some (.ref t), some (.ref g), some (.ref a), some (.ref b), some (.str (S one)), some (.str (S other)), some (.ref r), some (.str (S place)), some (.ref l), some (.int more), some (.int sign), some (.str (S bg)), some (.str (S en)), some (.int len), some (.ref q), some (.str (S low)), some (.str (S high))] ∧ 1 ≤ len ∧ len ≤ 1000000 ∧ NameOk low ∧ NameOk high ∧ Kep d H H' (k + 6) ∧ PsAt H' l ps ∧ l ≠ d ∧ ps.length = 12 ∧ ∀ p ∈ ps, PtOk (2 * B + 1000000) p), ?_, fun σ' HD hM => ?_⟩
      · refine ⟨_, rfl, _, rfl, _, rfl, _, rfl, (by show 2 ≤ sizeLine; decide), fun e1 ne1 => ⟨(by show 3 ≤ sizeLine; decide), fun e2 ne2 => ?_⟩⟩
        obtain ⟨K26, p1, S26⟩ := KC.pt (x := low) (y := high) ne1 ne2
        generalize upd (upd HC e1 (.tup [.int len, .int 2])) e2 (.tup [.str (S low), .str (S high), .ref e1]) = H26 at p1 K26 S26
        have P26 := PC.same S26
        refine ⟨_, rfl, _, rfl, _, rfl, _, rfl, d, _, len, rfl, K26.sd, by omega, by omega, by omega, fun H27 r27 w0 w1 S27 D27 => ⟨_, _, rfl, rfl, (by show 2 ≤ sizeLine; decide), fun e3 ne3 => ⟨(by show 3 ≤ sizeLine; decide), fun e4 ne4 => ?_⟩⟩⟩
        obtain ⟨xs, hx⟩ := K26.sd.lst
        have p1 := Dt.keep (S27.tk hx) p1
        have K27 := K26.draw S27 D27
        have P27 := P26.draw lCd K26.sd S27
        obtain ⟨K28, p2, S28⟩ := K27.pt (x := low) (y := high) ne3 ne4
        generalize upd (upd H27 e3 (.tup [.int (1 + r27), .int 1])) e4 (.tup [.str (S low), .str (S high), .ref e3]) = H28 at p2 K28 S28
        have P28 := P27.same S28
        have p1 := Dt.keep (TK.of S28) p1
        have hr28 := K28.tk.tup _ _ hr2
        refine ⟨_, rfl, _, rfl, _, rfl, (by show 3 ≤ sizeLine; decide), fun e5 ne5 => ⟨(by show 3 ≤ sizeLine; decide), fun m nm => ?_⟩⟩
        have p3 := pt_made (x := low) (y := high) hr28 ne5
        have p1 := Dt.keep (TK.new (o := .tup [.str (S low), .str (S high), .ref r]) ne5) p1
        have p2 := Dt.keep (TK.new (o := .tup [.str (S low), .str (S high), .ref r]) ne5) p2
        have K29 := K28.new (o := .tup [.str (S low), .str (S high), .ref r]) ne5
        have P29 := P28.new (o := .tup [.str (S low), .str (S high), .ref r]) ne5
        generalize upd H28 e5 (.tup [.str (S low), .str (S high), .ref r]) = H29 at p1 p2 p3 K29 P29 nm
        have K30 := K29.new (o := .lst [.ref e2, .ref e4, .ref e5]) nm
        have P30 := P29.new (o := .lst [.ref e2, .ref e4, .ref e5]) nm
        have A30 : PsAt (upd H29 m (.lst [.ref e2, .ref e4, .ref e5])) m [(low, high, len, 2), (low, high, 1 + r27, 1), (low, high, above, below)] := ⟨_, upd_same, DtAll.keep (TK.new nm) (.cons p1 (.cons p2 (.cons p3 .nil)))⟩
        generalize upd H29 m (.lst [.ref e2, .ref e4, .ref e5]) = H30 at K30 P30 A30
        have ok30 : ∀ p ∈ ([(low, high, len, 2), (low, high, 1 + r27, 1), (low, high, above, below)] : List Pt), PtOk (2 * B + 1000000) p := by
          intro p hp
          simp only [List.mem_cons, List.not_mem_nil, or_false] at hp
          rcases hp with rfl | rfl | rfl
          · exact ⟨nlow, nhigh, (by show -(2 * B + 1000000) ≤ 2; omega), (by show 2 ≤ 2 * B + 1000000; omega)⟩
          · exact ⟨nlow, nhigh, (by show -(2 * B + 1000000) ≤ 1; omega), (by show 1 ≤ 2 * B + 1000000; omega)⟩
          · exact ⟨nlow, nhigh, (by show -(2 * B + 1000000) ≤ below; omega), (by show below ≤ 2 * B + 1000000; omega)⟩
        have l30 : ([(low, high, len, 2), (low, high, 1 + r27, 1), (low, high, above, below)] : List Pt).length = 3 := rfl
        generalize ([(low, high, len, 2), (low, high, 1 + r27, 1), (low, high, above, below)] : List Pt) = ps30 at A30 ok30 l30
        obtain ⟨ws, zs, hw, hz', wl, zl, mk⟩ := P30.cat A30
        refine ⟨lC, m, ws, zs, rfl, rfl, hw, hz', by rw [wl, zl, lC9, l30]; exact sz_le (by omega), fun l4 nl4 => ?_⟩
        exact ⟨bg, en, l4, psC ++ ps30, len, q2, low, high, rfl, le1, le2, nlow, nhigh, K30.new nl4, mk l4 nl4, K30.sd.nd nl4, by rw [List.length_append, lC9, l30], fun p hp => (List.mem_append.mp hp).elim (okC p) (ok30 p)⟩
      obtain ⟨bg, en, lD, psD, len, q2, low, high, rfl, le1, le2, nlow, nhigh, KD, PD, lDd, lD9, okD⟩ := hM
      refine ⟨_, rfl, _, rfl, _, rfl, (by show 2 ≤ sizeLine; decide), fun e1 ne1 => ⟨(by show 3 ≤ sizeLine; decide), fun e2 ne2 => ?_⟩⟩
      obtain ⟨K26, p1, S26⟩ := KD.pt (x := low) (y := high) ne1 ne2
      generalize upd (upd HD e1 (.tup [.int 0, .int 1])) e2 (.tup [.str (S low), .str (S high), .ref e1]) = H26 at p1 K26 S26
      have P26 := PD.same S26
      refine ⟨_, rfl, _, rfl, _, rfl, (by show 2 ≤ sizeLine; decide), fun e3 ne3 => ⟨(by show 3 ≤ sizeLine; decide), fun e4 ne4 => ?_⟩⟩
      obtain ⟨K28, p2, S28⟩ := K26.pt (x := low) (y := high) ne3 ne4
      generalize upd (upd H26 e3 (.tup [.int len, .int 1])) e4 (.tup [.str (S low), .str (S high), .ref e3]) = H28 at p2 K28 S28
      have P28 := P26.same S28
      have p1 := Dt.keep (TK.of S28) p1
      refine ⟨_, rfl, _, rfl, _, rfl, (by show 2 ≤ sizeLine; decide), fun e5 ne5 => ⟨(by show 3 ≤ sizeLine; decide), fun e6 ne6 => ?_⟩⟩
      obtain ⟨K29, p3, S29⟩ := K28.pt (x := high) (y := low) ne5 ne6
      generalize upd (upd H28 e5 (.tup [.int len, .int 1])) e6 (.tup [.str (S high), .str (S low), .ref e5]) = H29 at p3 K29 S29
      have P29 := P28.same S29
      have p1 := Dt.keep (TK.of S29) p1
      have p2 := Dt.keep (TK.of S29) p2
      refine ⟨(by show 3 ≤ sizeLine; decide), fun m nm => ?_⟩
      have K30 := K29.new (o := .lst [.ref e2, .ref e4, .ref e6]) nm
      have P30 := P29.new (o := .lst [.ref e2, .ref e4, .ref e6]) nm
      have A30 : PsAt (upd H29 m (.lst [.ref e2, .ref e4, .ref e6])) m [(low, high, 0, 1), (low, high, len, 1), (high, low, len, 1)] := ⟨_, upd_same, DtAll.keep (TK.new nm) (.cons p1 (.cons p2 (.cons p3 .nil)))⟩
      generalize upd H29 m (.lst [.ref e2, .ref e4, .ref e6]) = H30 at K30 P30 A30
      have ok30 : ∀ p ∈ ([(low, high, 0, 1), (low, high, len, 1), (high, low, len, 1)] : List Pt), PtOk (2 * B + 1000000) p := by
        intro p hp
        simp only [List.mem_cons, List.not_mem_nil, or_false] at hp
        rcases hp with rfl | rfl | rfl
        · exact ⟨nlow, nhigh, (by show -(2 * B + 1000000) ≤ 1; omega), (by show 1 ≤ 2 * B + 1000000; omega)⟩
        · exact ⟨nlow, nhigh, (by show -(2 * B + 1000000) ≤ 1; omega), (by show 1 ≤ 2 * B + 1000000; omega)⟩
        · exact ⟨nhigh, nlow, (by show -(2 * B + 1000000) ≤ 1; omega), (by show 1 ≤ 2 * B + 1000000; omega)⟩
      have l30 : ([(low, high, 0, 1), (low, high, len, 1), (high, low, len, 1)] : List Pt).length = 3 := rfl
      generalize ([(low, high, 0, 1), (low, high, len, 1), (high, low, len, 1)] : List Pt) = ps30 at A30 ok30 l30
      obtain ⟨ws, zs, hw, hz', wl, zl, mk⟩ := P30.cat A30
      refine ⟨lD, m, ws, zs, rfl, rfl, hw, hz', by rw [wl, zl, lD9, l30]; exact sz_le (by omega), fun l4 nl4 => ?_⟩
      have lt : (psD ++ ps30).length = 15 := by rw [List.length_append, lD9, l30]
      exact ⟨l4, psD ++ ps30, _, _, _, _, _, _, rfl, (K30.new nl4).mono (by omega), mk l4 nl4, K30.sd.nd nl4, by omega, by omega, fun p hp => (List.mem_append.mp hp).elim (okD p) (ok30 p)⟩
end
end Far

namespace Far
open PySem PySem.Spec PyProof.Rows L2
/-! ### t[::-1], t a tuple -/
def tRevT (K : PySem.W.Frag) (te : TE) : TE := fun σ H Q => te σ H fun x H1 => ∃ a xs, x = .ref a ∧ SqT K H1 a xs ∧ ∀ p, H1 p = none → Q (.ref p) (upd H1 p (.tup xs.reverse))
section
variable {prog : Program} {w : World} {A : Around} {E : Value → Shared → Prop} {s : Shared}
theorem back_adjust (n : Nat) : Builtin.Slice.sliceAdjust none none (-1) (n : Int) = ((n : Int) - 1, -1) := by
  unfold Builtin.Slice.sliceAdjust
  simp
theorem back_places (n : Nat) : Builtin.Slice.slicePlaces ((n : Int) - 1) (-1) (-1) = n := by
  unfold Builtin.Slice.slicePlaces
  rw [if_neg (by decide)]
  cases n with
  | zero => rfl
  | succ n =>
    rw [if_pos (by omega)]
    have : (((n + 1 : Nat) : Int) - 1 - -1 - 1) / (- -1) + 1 = ((n + 1 : Nat) : Int) := by
      show _ / (1 : Int) + 1 = _
      rw [Int.ediv_one]
      omega
    rw [this]
    rfl
theorem back_all {α : Type} : ∀ (l : List α), (List.range l.length).filterMap (fun m => l[l.length - 1 - m]?) = l.reverse := by
  intro l
  have h := PySem.W.krv_range l.length
  have e : (List.range l.length).filterMap (fun m => l[l.length - 1 - m]?) = ((List.range l.length).map fun k => l.length - 1 - k).filterMap (fun j => l[j]?) := by
    rw [List.filterMap_map]
    rfl
  rw [e, h, List.filterMap_reverse]
  congr 1
  have := PySem.W.krv_all l.toArray
  simpa using this
theorem fm_congr {α β : Type} {f g : α → Option β} : ∀ {l : List α}, (∀ x ∈ l, f x = g x) → l.filterMap f = l.filterMap g
  | [], _ => rfl
  | x :: r, h => by
    rw [List.filterMap_cons, List.filterMap_cons, h x (List.mem_cons_self ..), fm_congr fun y hy => h y (List.mem_cons_of_mem _ hy)]
theorem back_pick (xs : Array Value) : ((List.range xs.size).filterMap fun (m : Nat) => xs[(((xs.size : Int) - 1) + (m : Int) * (-1)).toNat]?).toArray = xs.toList.reverse.toArray := by
  congr 1
  rw [← back_all xs.toList, Array.length_toList]
  refine fm_congr fun m hm => ?_
  have hm := List.mem_range.mp hm
  have e : (((xs.size : Int) - 1) + (m : Int) * (-1)).toNat = xs.size - 1 - m := by omega
  rw [e, Array.getElem?_toList]
theorem back_slice {sl : Addr} {vs : Value} {n : Nat} {Q : Int × Int × Nat → Shared → Prop} {vl vu : Value} (hs : s.heap.IsSliceOf sl vl vu vs) (pl : IsPart vl none) (pu : IsPart vu none) (ps : IsPart vs (some (-1))) (h : Q ((n : Int) - 1, -1, n) s) :
    wpAny (model prog w) A (Builtin.Slice.sliceApplied (.ref sl) (pure (n : Int))) Q E s := by
  obtain ⟨os, hos, hcs, hds⟩ := id hs
  unfold Builtin.Slice.sliceApplied Builtin.Slice.sliceFields
  refine wpAny_bind (wpAny_bind (wpAny_field hos hds (x := vl) rfl (wpAny_bind (wpAny_field hos hds (x := vu) rfl (wpAny_bind (wpAny_field hos hds (x := vs) rfl (wpAny_pure ?_)))))))
  refine wpAny_bind (HT.slicePart_ ps ?_)
  show wpAny _ _ (if ((-1 : Int) == 0) = true then _ else _) _ _ s
  rw [if_neg (by decide)]
  refine wpAny_bind (HT.slicePart_ pl (wpAny_bind (HT.slicePart_ pu (wpAny_bind (wpAny_pure ?_)))))
  show wpAny _ _ (match Builtin.Slice.sliceAdjust none none (-1) (n : Int) with | (lo, hi) => pure (lo, (-1 : Int), Builtin.Slice.slicePlaces lo hi (-1))) _ _ s
  rw [back_adjust n]
  show wpAny _ _ (pure ((n : Int) - 1, (-1 : Int), Builtin.Slice.slicePlaces ((n : Int) - 1) (-1) (-1))) _ _ s
  rw [back_places]
  exact wpAny_pure h
theorem back_tuple {t sl : Addr} {items : Array Value} {vl vu vs : Value} {Q : Value → Shared → Prop} (ht : IsTup s.heap t items) (hs : s.heap.IsSliceOf sl vl vu vs) (pl : IsPart vl none) (pu : IsPart vu none) (ps : IsPart vs (some (-1)))
    (h : Q (.ref s.heap.objs.size) { s with heap := s.heap.push { cls := .type "tuple", data := .seq items.toList.reverse.toArray } }) (hz : items.size ≤ sizeLine) : wpAny (model prog w) A (getItem (.ref t) (.ref sl)) Q E s := by
  have fits : sizeOk (.seq items.toList.reverse.toArray) := by
    show items.toList.reverse.toArray.size ≤ sizeLine
    simpa using hz
  obtain ⟨os, hos, hcs, hds⟩ := id hs
  have tys : s.TypeIs (.ref sl) "slice" := ⟨os, hos, hcs⟩
  unfold getItem
  try with_reducible refine wpAny_holding ?_
  first | refine wpAny_bind (wpAny_pure ?_) | skip
  refine wpAny_bind (wpAny_sequenceKey ht.typeIs (by decide) ?_)
  refine wpAny_bind (wpAny_callSpecial?_slot (name := Str.ofString "__getitem__") ht.typeIs PyProof.Rows.slot_tuple_getitem
    (wpAny_call_entry PyProof.Rows.slot_tuple_getitem ht.typeIs PyProof.Rows.entry_tuple_getitem ?_ (PyProof.Rows.args_tuple_getitem _ _)))
  show wpAny _ _ (Builtin.Tuple.tupleItemsOf (.ref t) >>= _) _ _ s
  refine wpAny_bind (PyProof.Rows.tupleItemsOf_ ht (wpAny_bind (wpAny_typeOf tys ?_)))
  rw [if_pos (by decide)]
  refine wpAny_bind (back_slice hs pl pu ps ?_)
  have no : ¬ (((items.size : Int) - 1 == 0 && (-1 : Int) == 1 && items.size == items.size) = true) := by simp
  show wpAny _ _ (if ((items.size : Int) - 1 == 0 && (-1 : Int) == 1 && items.size == items.size) = true then _ else _) _ _ s
  rw [if_neg no, back_pick]
  first
    | exact wpAny_bind (m := Builtin.Tuple.tupleExact _) (wpAny_newObj_type (wpAny_pure ⟨_, rfl, wpAny_pure h⟩) fits)
    | exact wpAny_bind (m := Builtin.Tuple.tupleExact _) (wpAny_newObj_type (wpAny_bind (wpAny_pure (wpAny_pure ⟨_, rfl, wpAny_pure h⟩))) fits)
    | exact wpAny_bind (wpAny_bind (m := Builtin.Tuple.tupleExact _) (wpAny_newObj_type (wpAny_pure (wpAny_pure ⟨_, rfl, wpAny_pure h⟩)) fits))
    | exact wpAny_bind (wpAny_bind (m := Builtin.Tuple.tupleExact _) (wpAny_newObj_type (wpAny_pure ⟨_, rfl, wpAny_pure h⟩) fits))
end
theorem pe_revT {X : Cx} {e : Expr} {te : TE} {k : Nat} {p1 p2 p3 pos : Pos} (he : PE X e te) : PE X (.Subscript e (.Slice none none (some (.UnaryOp .USub (.Constant (.int 1) k p1) p2)) p3) pos) (tRevT X.K te) := by
  refine ⟨fun pins s σ H Q I h => ?_⟩
  refine Subscript_ (thn (he.run pins s σ H _ I h) fun v s1 ⟨x, H1, I1, r1, q1⟩ => ?_)
  obtain ⟨a, xs, ex, hx, q⟩ := q1
  subst ex
  cases r1
  have hst : PO X (some (.UnaryOp .USub (.Constant (.int 1) k p1) p2)) (tPart (tUn (rU fun i => .int (-i)) (tC (.int 1)))) := po_some (pe_un un_neg pe_int)
  refine wpAny_Slice (thn (po_none.run pins s1 σ H1 (fun o H2 => o = none ∧ H2 = H1) I1 ⟨rfl, rfl⟩) fun vl s2 ⟨l, H2, I2, pl, el, e2⟩ => ?_)
  subst el e2
  refine thn (po_none.run pins s2 σ H2 (fun o H3 => o = none ∧ H3 = H2) I2 ⟨rfl, rfl⟩) fun vu s3 ⟨u, H3, I3, pu, eu, e3⟩ => ?_
  subst eu e3
  refine thn (hst.run pins s3 σ H3 (fun o H4 => o = some (-1) ∧ H4 = H3) I3 ⟨1, rfl, -1, rfl, rfl, rfl⟩) fun vs s4 ⟨o, H4, I4, ps, eo, e4⟩ => ?_
  subst eo e4
  have I5 : Inv X pins σ H4 { s4 with heap := s4.heap.push { cls := .type "slice", data := .fields #[vl, vu, vs] } } := I4.kept (t' := s4.toks) fun b ob q => Heap.get?_push_of_some _ q
  obtain ⟨its, r, ht, hz⟩ := I5.tuple hx
  have hlen := r.length
  show wpAny (model X.prog X.w) X.A (subscriptTail e (.Slice none none (some (.UnaryOp .USub (.Constant (.int 1) k p1) p2)) p3) (.ref a) (.ref s4.heap.objs.size)) (EP X pins σ Q) X.xe { s4 with heap := s4.heap.push { cls := .type "slice", data := .fields #[vl, vu, vs] } }
  refine tail_any (ops := [.ref a, .ref s4.heap.objs.size]) ht.typeIs (PyProof.Rows.slot_tuple_getitem.lookup) ?_ (by with_unfolding_all rfl)
  refine back_tuple ht (Heap.IsSliceOf.new _ vl vu vs) pl pu ps ?_ (by rw [List.size_toArray]; omega)
  refine ⟨.ref _, _, I5.laid (t' := s4.toks) (o := .tup xs.reverse) (fun b ob q => Heap.get?_push_of_some _ q) (Nat.le_refl _) ?_, rfl, q _ (I5.hok.fresh (Nat.le_refl _))⟩
  exact ⟨by rw [List.length_reverse]; exact hz, _, by simpa using r.reverse, ⟨_, Heap.get?_push_size _ rfl, rfl, _, rfl⟩⟩
end Far

namespace Far
open PySem PySem.Spec PyProof.Rows L2
open C8 (pss_cut tCut)
open SX (S)
/-- a comprehension over a text's signs -/
theorem lc_str {x : Str} {g : TG} {tt : TT} {te : TE} {vs : List Nat} {σ : L2.St} {H1 : Hp} {D : Addr} {Qd : Hp → Prop} (Pv : Nat → Hp → Prop) (h0 : Pv 0 (upd H1 D (.lst [])))
    (hs : ∀ i c H, x.cps[i]? = some c → Pv i H → g (.str ⟨#[c]⟩) (wipe σ vs) H fun σ2 H2 => wipe σ2 vs = wipe σ vs ∧ tt σ2 H2 fun b H3 =>
      if b = true then te σ2 H3 fun y H4 => ∃ acc, H4 D = some (.lst acc) ∧ acc.length < sizeLine ∧ Pv (i + 1) (upd H4 D (.lst (acc ++ [y]))) else Pv (i + 1) H3) (hd : ∀ H, Pv x.cps.size H → Qd H) :
    ∃ W : Nat → Nat → Hp → Prop, (∃ m, W 0 m (upd H1 D (.lst []))) ∧ ∀ i m H, W i m H →
      ((Its x).stop i H ∧ Qd H) ∨ ((Its x).go i H ∧ ∃ Nx : Hp → Prop, (∀ H', Nx H' → ∃ m', m' < m ∧ W (i + 1) m' H') ∧ ∀ v H', (Its x).yld i H v H' → g v (wipe σ vs) H' fun σ2 H2 => wipe σ2 vs = wipe σ vs ∧ tt σ2 H2 fun b H3 =>
        if b = true then te σ2 H3 fun y H4 => ∃ acc, H4 D = some (.lst acc) ∧ acc.length < sizeLine ∧ Nx (upd H4 D (.lst (acc ++ [y]))) else Nx H3) := by
  refine ⟨fun i m H => m = x.cps.size - i ∧ i ≤ x.cps.size ∧ Pv i H, ⟨x.cps.size, by simp, Nat.zero_le _, h0⟩, fun i m H ⟨em, hi, p⟩ => ?_⟩
  by_cases lt : i < x.cps.size
  · refine .inr ⟨lt, Pv (i + 1), fun H' p' => ⟨x.cps.size - (i + 1), by omega, rfl, lt, p'⟩, fun v H' ⟨e, c, hc, ev⟩ => ?_⟩
    rw [e, ev]
    exact hs i c H hc p
  · have e : i = x.cps.size := by omega
    rw [e] at p
    exact .inl ⟨by show x.cps.size ≤ i; omega, hd H p⟩
theorem dt_of_tup {H : Hp} {r : Addr} {pl : List Nm} (h : TupAt H r ((pl.map S).map V.str)) (ne : pl ≠ []) : Dt H (.ref r) (.tuple (pl.map strD)) :=
  h.elim (fun h => .tup h (dt_strs H pl)) fun ⟨o, d, h⟩ => .tupZ rfl ne d h
def PapOk (B : Int) (x : Pap) : Prop := PtOk B x.1 ∧ NameOk x.2.1 ∧ NameOk x.2.2
def numD (n : Int) (x : Pap) : PyData := .tuple [.int n, papD x]
theorem pair_made {H : Hp} {e : Addr} {x y : Nm} : Dt (upd H e (.tup [.str (S x), .str (S y)])) (.ref e) (.tuple [strD x, strD y]) := .tup upd_same (.cons (.str _) (.cons (.str _) .nil))
/-- (number, (point, pair)), the inner one made first -/
theorem num_made {H : Hp} {e1 e2 : Addr} {v w : V} {n : Int} {x : Pap} (h1 : Dt H v (ptD x.1)) (h2 : Dt H w (.tuple [strD x.2.1, strD x.2.2])) (ne1 : H e1 = none) (ne2 : (upd H e1 (.tup [v, w])) e2 = none) : Dt (upd (upd H e1 (.tup [v, w])) e2 (.tup [.int n, .ref e1])) (.ref e2) (numD n x) :=
  .tup upd_same (.cons (.int _) (.cons (.tup ((TK.new ne2).tup _ _ upd_same) (.cons (Dt.keep ((TK.new ne1).trans (TK.new ne2)) h1) (.cons (Dt.keep ((TK.new ne1).trans (TK.new ne2)) h2) .nil))) .nil))
abbrev s_law_bent : Stmt := topS 28
abbrev N_law_bent : List Str := ["seed", "tree", "number", "paper", "point", "pair", "places", "place", "at", "way", "more", "name", "to", "sign"]
theorem sc_law_bent : FnScope N_law_bent ["seed", "tree", "number", "paper"] (defScope s_law_bent) := ⟨rfl, rfl, rfl, by decide +kernel, rfl, by decide +kernel, by decide +kernel⟩
section
variable {P : Program} {w : World} {K : PySem.W.Frag} {mg : Str → Option Value} {base : Heap}
def spBent : Sp := fun vs H Q _ => ∃ (d : Addr) (v u : V) (n : Int) (k : Nat) (pl : List Nm) (ts : List Tie) (x : Pap) (B : Int), vs = [.ref d, v, .int n, u] ∧ SeedAt H d k ∧ k < 80000 ∧ Dt H v (treeD pl ts) ∧ PlZ H v pl ∧ Fine pl ts ∧ Dt H u (papD x) ∧ PapOk B x ∧ 2 ≤ B ∧
  ∀ (H' : Hp) (r : V) (n' : Int) (x' : Pap), Kep d H H' (k + 20) → Dt H' r (numD n' x') → PapOk (2 * B + 1000000) x' → Q r H'
theorem ok_bent {f : Addr} {fd : FuncData} (F : Fun K "_law_bent" "_law_bent" s_law_bent f fd) (T : TxtM mg) (C_law_draw : Cal P w K mg base 1 "_law_draw" spDraw) (C_law_bent_point : Cal P w K mg base 2 "_law_bent_point" spBentP) : FnOk P w K mg base CX0 3 f fd ["seed", "tree", "number", "paper"] spBent := by
  refine F.ok sc_law_bent (fun vs H Q E h => ?_) (fun cdv A outer s H vs Q E hr h => ?_)
  · obtain ⟨d, v, u, n, k, pl, ts, x, B, rfl, _⟩ := h
    rfl
  · obtain ⟨d, v, u, n, k, pl, ts, ⟨pt, x1, x2⟩, B, rfl, SD, hk, hd, hz, fine, hu, ⟨pok, n1, n2⟩, B2, q⟩ := h
    obtain ⟨t, a, b, vs, rfl, ht, ha, hb', hA⟩ := dt_tree hd
    obtain ⟨g, r, up, rfl, hg, hp, hr2⟩ := dt_pap hu
    obtain ⟨pg, pr, rfl, hpg, hpr⟩ := dt_pt hp
    dsimp only at pok n1 n2 hg hr2 hp hpg hpr
    have nd := fine.tree.nodup
    have pll := fine.len
    have plp : 0 < pl.length := List.length_pos_iff.mpr fine.ne
    have e6 : (10 : Int) ^ (6 : Int).toNat = 1000000 := by decide
    have pok' : PtOk (2 * B + 1000000) pt := ⟨pok.1, pok.2.1, by have := pok.2.2.1; omega, by have := pok.2.2.2; omega⟩
    refine ⟨_, (pss_cons (ps_asg (pv 3) (pg_tup rfl (pgs_cons (pg_name (i := 4) sc_law_bent.nd rfl (.inl rfl)) (pgs_cons (pg_name (i := 5) sc_law_bent.nd rfl (.inl rfl)) pgs_nil))))
      (pss_cons (ps_set (i := 6) sc_law_bent.nd rfl (.inl rfl) (pe_ix ix_tup (pv 1) pe_int (fun _ _ => rfl)))
      (pss_cons (ps_set (i := 7) sc_law_bent.nd rfl (.inl rfl) (pe_ix ix_tup (pv 6) (pe_c C_law_draw hr (by decide) rfl (pa_cons (pv 0) (pa_cons (pe_callB call_len_seq (by rfl) T.len bt_len (pa_cons (pv 6) pa_nil)) pa_nil))) (fun _ _ => rfl)))
      (pss_cons (ps_set (i := 8) sc_law_bent.nd rfl (.inl rfl) (pe_c C_law_draw hr (by decide) rfl (pa_cons (pv 0) (pa_cons pe_int pa_nil))))
      (pss_cons (ps_set (i := 9) sc_law_bent.nd rfl (.inl rfl) (pe_c C_law_draw hr (by decide) rfl (pa_cons (pv 0) (pa_cons pe_int pa_nil))))
      (pss_cut (ps_if (pt_cmpR op_eq (pv 9) pe_int (nomark _))
        (pss_cons (ps_set (i := 10) sc_law_bent.nd rfl (.inl rfl) (pe_ix ix_list (pe_lst (pa_cons pe_int (pa_cons (pe_un un_neg pe_int) (pa_cons pe_int (pa_cons (pe_un un_neg pe_int) (pa_cons (pe_op op_sub pe_int (pv 2)) (pa_cons (pe_c C_law_draw hr (by decide) rfl (pa_cons (pv 0) (pa_cons (pe_op op_pow pe_int pe_int) pa_nil))) pa_nil))))))) (pe_c C_law_draw hr (by decide) rfl (pa_cons (pv 0) (pa_cons pe_int pa_nil))) (fun _ _ => rfl)))
        (pss_one (ps_ret (pe_tup (pa_cons (pe_op op_add (pv 2) (pv 10)) (pa_cons (pv 3) pa_nil))))))
        pss_nil)
      (pss_cut (ps_if (pt_cmpR op_eq (pv 9) pe_int (nomark _))
        (pss_one (ps_ret (pe_tup (pa_cons (pv 2) (pa_cons (pe_tup (pa_cons (pv 4) (pa_cons (pe_ix ix_list (pe_lst (pa_cons (pe_tup (pa_cons (pv 7) (pa_cons (pe_ix ix_tup (pv 5) pe_int (fun _ _ => rfl)) pa_nil))) (pa_cons (pe_tup (pa_cons (pe_ix ix_tup (pv 5) pe_int (fun _ _ => rfl)) (pa_cons (pv 7) pa_nil))) pa_nil))) (pv 8) (fun _ _ => rfl)) pa_nil))) pa_nil)))))
        pss_nil)
      (pss_cut (ps_if (pt_cmpR op_eq (pv 9) pe_int (nomark _))
        (pss_one (ps_ret (pe_tup (pa_cons (pv 2) (pa_cons (pe_tup (pa_cons (pv 4) (pa_cons (pe_tup (pa_cons (pv 7) (pa_cons (pv 7) pa_nil))) pa_nil))) pa_nil)))))
        pss_nil)
      (pss_cut (ps_if (pt_cmpR op_eq (pv 9) pe_int (nomark _))
        (pss_cons (ps_set (i := 11) sc_law_bent.nd rfl (.inl rfl) (pe_join pe_str (pe_lc (own := [("sign", 13)]) (g := gName 13) (tt := tYes) rfl sc_law_bent.nd (pi_str (pe_ix ix_tup (pv 5) (pv 8) (fun _ _ => rfl))) (blkOk_by (N := N_law_bent) (sc := defScope s_law_bent) (by decide +kernel)) (fun _ _ _ _ _ => pg_name (i := 13) sc_law_bent.nd rfl (Or.inl rfl)) (fun _ _ _ _ _ => pts_nil) (fun _ _ _ _ _ => (pv 13)))))
        (pss_cons (ps_set (i := 12) sc_law_bent.nd rfl (.inl rfl) (pe_c C_law_draw hr (by decide) rfl (pa_cons (pv 0) (pa_cons (pe_callB call_len (by rfl) T.len bt_len (pa_cons (pv 11) pa_nil)) pa_nil))))
        (pss_cons (ps_set (i := 11) sc_law_bent.nd rfl (.inl rfl) (pe_op op_add_str (pe_op op_add_str (pe_slice C8.sl_txt (pv 11) po_none (po_some (pv 12))) (pe_ix ix_str pe_str (pe_c C_law_draw hr (by decide) rfl (pa_cons (pv 0) (pa_cons pe_int pa_nil))) (fun _ _ => rfl))) (pe_slice C8.sl_txt (pv 11) (po_some (pe_op op_add (pv 12) pe_int)) po_none)))
        (pss_one (ps_ret (pe_tup (pa_cons (pv 2) (pa_cons (pe_ix ix_list (pe_lst (pa_cons (pe_tup (pa_cons (pv 4) (pa_cons (pe_tup (pa_cons (pv 11) (pa_cons (pe_ix ix_tup (pv 5) pe_int (fun _ _ => rfl)) pa_nil))) pa_nil))) (pa_cons (pe_tup (pa_cons (pe_tup (pa_cons (pv 11) (pa_cons (pe_ix ix_tup (pv 4) pe_int (fun _ _ => rfl)) (pa_cons (pe_ix ix_tup (pv 4) pe_int (fun _ _ => rfl)) pa_nil)))) (pa_cons (pv 5) pa_nil))) pa_nil))) (pv 8) (fun _ _ => rfl)) pa_nil))))))))
        pss_nil)
      (pss_cut (ps_if (pt_cmpR op_eq (pv 9) pe_int (nomark _))
        (pss_one (ps_ret (pe_tup (pa_cons (pv 2) (pa_cons (pe_tup (pa_cons (pv 4) (pa_cons (pe_revT (pv 5)) pa_nil))) pa_nil)))))
        pss_nil)
      (pss_one (ps_ret (pe_tup (pa_cons (pv 2) (pa_cons (pe_tup (pa_cons (pe_c C_law_bent_point hr (by decide) rfl (pa_cons (pv 0) (pa_cons (pv 1) (pa_cons (pv 4) pa_nil)))) (pa_cons (pv 5) pa_nil))) pa_nil))))))))))))))), ?_⟩
    refine ⟨_, rfl, g, _, rfl, SqT.of hg, rfl, _, _, rfl, _, _, rfl, rfl, ?_⟩
    refine ⟨_, rfl, t, _, 0, .ref a, rfl, rfl, SqT.of ht, atI_nat (j := 0) rfl, ?_⟩
    refine ⟨_, rfl, _, rfl, _, rfl, a, _, rfl, .inr ha.sq, d, k, _, rfl, SD, by omega, ?_, ?_, fun H1 r1 x0 y0 S1 D1 => ?_⟩
    · rw [List.length_map, List.length_map]
      omega
    · rw [List.length_map, List.length_map]
      omega
    have K1 := (Kep.refl SD).draw S1 D1
    obtain ⟨v, hv, mv⟩ := atI_in x0 y0
    obtain ⟨place, hpl, rfl⟩ := strs_at mv
    have npl := fine.ok _ hpl
    refine ⟨a, _, r1, _, rfl, rfl, (ha.tk K1.tk).sq, hv, ?_⟩
    refine ⟨_, rfl, d, _, 2, rfl, K1.sd, by omega, by decide, by decide, fun H2 at' at0 at1 S2 D2 => ?_⟩
    have K2 := K1.draw S2 D2
    refine ⟨_, rfl, d, _, 7, rfl, K2.sd, by omega, by decide, by decide, fun H3 way w0 w1 S3 D3 => ?_⟩
    have K3 := K2.draw S3 D3
    have hr3 := hr2.tk K3.tk
    have hp3 := Dt.keep K3.tk hp
    have hpair3 : Dt H3 (.ref r) (.tuple [strD x1, strD x2]) := dt_of_tup (pl := [x1, x2]) hr3 (by simp)
    have pd0 : atI [V.str (S x1), V.str (S x2)] 0 = some (.str (S x1)) := atI_nat (j := 0) rfl
    have pd1 : atI [V.str (S x1), V.str (S x2)] 1 = some (.str (S x2)) := atI_nat (j := 1) rfl
    have atc : at' = 0 ∨ at' = 1 := by omega
    have pda : ∃ y, NameOk y ∧ atI [V.str (S x1), V.str (S x2)] at' = some (.str (S y)) := by
      rcases atc with rfl | rfl
      · exact ⟨x1, n1, pd0⟩
      · exact ⟨x2, n2, pd1⟩
    refine ⟨fun σ' H' => σ' = [some (.ref d), some (.ref t), some (.int n), some (.ref g), some (.ref pg), some (.ref r), some (.ref a), some (.str (S place)), some (.int at'), some (.int way), none, none, none, none] ∧ H3 = H', ?_, fun σ' H' hM => ?_⟩
    · refine ⟨_, rfl, rfl, _, rfl, ?_⟩
      refine ite2 (fun z => ?_) (fun z => ⟨rfl, rfl⟩)
      refine ⟨_, rfl, _, rfl, _, rfl, _, _, rfl, rfl, _, rfl, _, _, rfl, rfl, ⟨by decide, by decide, by decide⟩, d, _, _, rfl, K3.sd, by omega, by decide, by decide, fun H4 r4 c0 c1 S4 D4 => ⟨(by show 6 ≤ sizeLine; decide), fun p np => ?_⟩⟩
      have K4 := K3.draw S4 D4
      have pd : p ≠ d := K4.sd.nd np
      have K5 := K4.new (o := .lst [.int 1, .int (-1), .int 2, .int (-2), .int (0 - n), .int r4]) np
      refine ⟨_, rfl, d, _, 6, rfl, K5.sd, by omega, by decide, by decide, fun H6 r6 v0 v1 S6 D6 => ?_⟩
      have hp6 : H6 p = some (.lst [.int 1, .int (-1), .int 2, .int (-2), .int (0 - n), .int r4]) := S6 _ _ pd upd_same
      have K6 := K5.draw S6 D6
      obtain ⟨v, hv, mv⟩ := atI_in (xs := [V.int 1, .int (-1), .int 2, .int (-2), .int (0 - n), .int r4]) v0 (by simpa using v1)
      obtain ⟨more, rfl⟩ : ∃ m : Int, v = .int m := by
        simp only [List.mem_cons, List.not_mem_nil, or_false] at mv
        rcases mv with e | e | e | e | e | e <;> exact ⟨_, e⟩
      refine ⟨p, _, r6, _, rfl, rfl, SqL.of hp6, hv, ?_⟩
      refine ⟨_, rfl, _, rfl, _, _, rfl, rfl, _, rfl, (by show 2 ≤ sizeLine; decide), fun e ne => ?_⟩
      refine q _ _ (n + more) (pt, x1, x2) ((K6.new ne).mono (by omega)) ?_ ⟨pok', n1, n2⟩
      exact .tup upd_same (.cons (.int _) (.cons (Dt.keep (K6.tk.trans (TK.new ne)) hu) .nil))
    obtain ⟨rfl, rfl⟩ := hM
    refine ⟨fun σ' H' => σ' = [some (.ref d), some (.ref t), some (.int n), some (.ref g), some (.ref pg), some (.ref r), some (.ref a), some (.str (S place)), some (.int at'), some (.int way), none, none, none, none] ∧ H3 = H', ?_, fun σ' H' hM => ?_⟩
    · refine ⟨_, rfl, rfl, _, rfl, ?_⟩
      refine ite2 (fun z => ?_) (fun z => ⟨rfl, rfl⟩)
      refine ⟨_, rfl, _, rfl, _, rfl, _, rfl, r, _, 1, _, rfl, rfl, hr3.sq, pd1, (by show 2 ≤ sizeLine; decide), fun e1 ne1 => ?_⟩
      have K4 := K3.new (o := .tup [.str (S place), .str (S x2)]) ne1
      refine ⟨_, rfl, r, _, 0, _, rfl, rfl, (hr2.tk K4.tk).sq, pd0, _, rfl, (by show 2 ≤ sizeLine; decide), fun e2 ne2 => ⟨(by show 2 ≤ sizeLine; decide), fun l nl => ?_⟩⟩
      have K5 := K4.new (o := .tup [.str (S x1), .str (S place)]) ne2
      have q1 : Dt (upd (upd H3 e1 (.tup [.str (S place), .str (S x2)])) e2 (.tup [.str (S x1), .str (S place)])) (.ref e1) (.tuple [strD place, strD x2]) := Dt.keep (TK.new ne2) pair_made
      have q2 : Dt (upd (upd H3 e1 (.tup [.str (S place), .str (S x2)])) e2 (.tup [.str (S x1), .str (S place)])) (.ref e2) (.tuple [strD x1, strD place]) := pair_made
      generalize upd (upd H3 e1 (.tup [.str (S place), .str (S x2)])) e2 (.tup [.str (S x1), .str (S place)]) = H5 at K5 q1 q2 nl
      have K6 := K5.new (o := .lst [.ref e1, .ref e2]) nl
      have hl : (upd H5 l (.lst [.ref e1, .ref e2])) l = some (.lst [.ref e1, .ref e2]) := upd_same
      have q1 := Dt.keep (TK.new (o := .lst [.ref e1, .ref e2]) nl) q1
      have q2 := Dt.keep (TK.new (o := .lst [.ref e1, .ref e2]) nl) q2
      generalize upd H5 l (.lst [.ref e1, .ref e2]) = H6 at K6 hl q1 q2
      obtain ⟨v, y1, y2, hv, hy1, hy2, hvd⟩ : ∃ (v : V) (y1 y2 : Nm), atI [V.ref e1, .ref e2] at' = some v ∧ NameOk y1 ∧ NameOk y2 ∧ Dt H6 v (.tuple [strD y1, strD y2]) := by
        rcases atc with rfl | rfl
        · exact ⟨_, _, _, atI_nat (j := 0) rfl, npl, n2, q1⟩
        · exact ⟨_, _, _, atI_nat (j := 1) rfl, n1, npl, q2⟩
      refine ⟨_, rfl, l, _, at', v, rfl, rfl, SqL.of hl, hv, (by show 2 ≤ sizeLine; decide), fun e3 ne3 => ⟨(by show 2 ≤ sizeLine; decide), fun e4 ne4 => ?_⟩⟩
      exact q _ _ n (pt, y1, y2) (((K6.new ne3).new ne4).mono (by omega)) (num_made (x := (pt, y1, y2)) (Dt.keep K6.tk hp) hvd ne3 ne4) ⟨pok', hy1, hy2⟩
    obtain ⟨rfl, rfl⟩ := hM
    refine ⟨fun σ' H' => σ' = [some (.ref d), some (.ref t), some (.int n), some (.ref g), some (.ref pg), some (.ref r), some (.ref a), some (.str (S place)), some (.int at'), some (.int way), none, none, none, none] ∧ H3 = H', ?_, fun σ' H' hM => ?_⟩
    · refine ⟨_, rfl, rfl, _, rfl, ?_⟩
      refine ite2 (fun z => ?_) (fun z => ⟨rfl, rfl⟩)
      refine ⟨_, rfl, _, rfl, _, rfl, _, rfl, (by show 2 ≤ sizeLine; decide), fun e2 ne2 => ⟨(by show 2 ≤ sizeLine; decide), fun e3 ne3 => ⟨(by show 2 ≤ sizeLine; decide), fun e4 ne4 => ?_⟩⟩⟩
      have K4 := K3.new (o := .tup [.str (S place), .str (S place)]) ne2
      exact q _ _ n (pt, place, place) (((K4.new ne3).new ne4).mono (by omega)) (num_made (x := (pt, place, place)) (Dt.keep K4.tk hp) pair_made ne3 ne4) ⟨pok', npl, npl⟩
    obtain ⟨rfl, rfl⟩ := hM
    refine ⟨fun σ' H' => σ' = [some (.ref d), some (.ref t), some (.int n), some (.ref g), some (.ref pg), some (.ref r), some (.ref a), some (.str (S place)), some (.int at'), some (.int way), none, none, none, none] ∧ H3 = H', ?_, fun σ' H' hM => ?_⟩
    · refine ⟨_, rfl, rfl, _, rfl, ?_⟩
      refine ite2 (fun z => ?_) (fun z => ⟨rfl, rfl⟩)
      obtain ⟨y, oky, aty⟩ := pda
      have h1 := oky.1
      have h8 := oky.2.1
      refine ⟨⟨_, rfl⟩, _, rfl, _, rfl, r, _, at', _, rfl, rfl, hr3.sq, aty, _, rfl, fun D nD => ?_⟩
      have Dd := K3.sd.nd nD
      refine lc_str (x := S y) (fun i H'' => H'' = upd H3 D (.lst (((y.take i).map fun c => S [c]).map V.str))) rfl (fun i c H'' hc hP => ?_) (fun H'' hP => ?_)
      · subst hP
        have hc : y[i]? = some c := by simpa using hc
        have il := (List.getElem?_eq_some_iff.mp hc).1
        refine ⟨rfl, _, rfl, _, upd_same, by rw [List.length_map, List.length_map, List.length_take]; exact sz_lt (by omega), ?_⟩
        rw [upd_upd, List.take_add_one, hc, List.map_append, List.map_append]
        rfl
      · subst hP
        have e : (S y).cps.size = y.length := by simp
        rw [e, List.take_length]
        have K4 := K3.new (o := .lst ((y.map fun c => S [c]).map V.str)) nD
        refine ⟨_, D, y.map (fun c => S [c]), rfl, rfl, .inl (SqL.of upd_same), ?_, ?_⟩
        · rw [one_sum']
          have : ((("" : Str)).length) = 0 := rfl
          rw [this, List.length_map]
          omega
        have ej : Txt.join ("" : Str) (y.map fun c => S [c]) = S y := by
          have := SX.join_S [] (y.map fun c => [c])
          rw [List.map_map] at this
          rw [join_none, flat_one] at this
          exact this
        rw [ej]
        generalize upd H3 D (.lst ((y.map fun c => S [c]).map V.str)) = H4 at K4
        refine ⟨_, rfl, _, rfl, .str (S y), y.length, rfl, ⟨by rw [SX.S_len]; exact sz_le (by omega), (SX.S_len _).symm⟩, d, _, _, rfl, K4.sd, by omega, by omega, by omega, fun H5 r5 r50 r51 S5 D5 => ?_⟩
        have K5 := K4.draw S5 D5
        refine ⟨_, rfl, _, rfl, r5, rfl, S y, rfl, by rw [SX.S_len]; exact sz_le (by omega), ?_⟩
        refine ⟨_, rfl, d, _, 26, rfl, K5.sd, by omega, by decide, by decide, fun H6 r6 r60 r61 S6 D6 => ?_⟩
        have K6 := K5.draw S6 D6
        obtain ⟨sg, hsg, msg⟩ := atI_in (xs := abc.cps.toList) r60 (by rw [abc_len]; exact r61)
        have oks := abc_ok sg msg
        refine ⟨abc, r6, sg, rfl, rfl, by decide, hsg, ?_⟩
        refine ⟨S (y.take r5.toNat), S [sg], congrArg V.str (SX.slice_to r50), rfl, by rw [SX.S_len, SX.S_len, List.length_take, List.length_singleton]; exact sz_le (by omega), ?_⟩
        refine ⟨_, rfl, _, rfl, r5, 1, rfl, rfl, r5 + 1, rfl, S y, rfl, by rw [SX.S_len]; exact sz_le (by omega), S (y.take r5.toNat ++ [sg]), S (y.drop (r5 + 1).toNat), congrArg V.str (SX.S_cat _ _), congrArg V.str (SX.slice_from (by omega)), by rw [SX.S_len, SX.S_len, List.length_append, List.length_take, List.length_drop, List.length_singleton]; exact sz_le (by omega), ?_⟩
        rw [SX.S_cat]
        have okn : NameOk (y.take r5.toNat ++ [sg] ++ y.drop (r5 + 1).toNat) := by
          refine ⟨?_, ?_, fun x hx => ?_⟩
          · simp
            omega
          · simp
            omega
          · rcases List.mem_append.mp hx with z | z
            · rcases List.mem_append.mp z with z | z
              · exact oky.2.2 x (List.mem_of_mem_take z)
              · rw [List.mem_singleton.mp z]
                exact oks
            · exact oky.2.2 x (List.mem_of_mem_drop z)
        generalize y.take r5.toNat ++ [sg] ++ y.drop (r5 + 1).toNat = name at okn
        have hr6 := hr2.tk K6.tk
        have hp6 := Dt.keep K6.tk hp
        refine ⟨_, rfl, _, rfl, _, rfl, _, rfl, r, _, 1, _, rfl, rfl, hr6.sq, pd1, (by show 2 ≤ sizeLine; decide), fun e1 ne1 => ⟨(by show 2 ≤ sizeLine; decide), fun e2 ne2 => ?_⟩⟩
        have K8 := (K6.new (o := .tup [.str (S name), .str (S x2)]) ne1).new (o := .tup [.ref pg, .ref e1]) ne2
        have q1 : Dt (upd (upd H6 e1 (.tup [.str (S name), .str (S x2)])) e2 (.tup [.ref pg, .ref e1])) (.ref e2) (papD (pt, name, x2)) :=
          .tup upd_same (.cons (Dt.keep ((TK.new ne1).trans (TK.new ne2)) hp6) (.cons (Dt.keep (TK.new ne2) pair_made) .nil))
        generalize upd (upd H6 e1 (.tup [.str (S name), .str (S x2)])) e2 (.tup [.ref pg, .ref e1]) = H8 at K8 q1
        have hpg8 := K8.tk.tup _ _ hpg
        refine ⟨_, rfl, _, rfl, pg, _, 1, _, rfl, rfl, SqT.of hpg8, atI_nat (j := 1) rfl, _, rfl, pg, _, 2, _, rfl, rfl, SqT.of hpg8, atI_nat (j := 2) rfl, (by show 3 ≤ sizeLine; decide), fun e3 ne3 => ?_⟩
        have q2 := pt_made (x := name) (y := pt.2.1) (K8.tk.tup _ _ hpr) ne3
        have q1 := Dt.keep (TK.new (o := .tup [.str (S name), .str (S pt.2.1), .ref pr]) ne3) q1
        have K9 := K8.new (o := .tup [.str (S name), .str (S pt.2.1), .ref pr]) ne3
        generalize upd H8 e3 (.tup [.str (S name), .str (S pt.2.1), .ref pr]) = H9 at K9 q1 q2
        refine ⟨_, rfl, (by show 2 ≤ sizeLine; decide), fun e4 ne4 => ⟨(by show 2 ≤ sizeLine; decide), fun l nl => ?_⟩⟩
        have hpr9 : Dt H9 (.ref r) (.tuple [strD x1, strD x2]) := dt_of_tup (pl := [x1, x2]) (hr2.tk K9.tk) (by simp)
        have q3 : Dt (upd H9 e4 (.tup [.ref e3, .ref r])) (.ref e4) (papD ((name, pt.2.1, pt.2.2), x1, x2)) := .tup upd_same (.cons (Dt.keep (TK.new ne4) q2) (.cons (Dt.keep (TK.new ne4) hpr9) .nil))
        have q1 := Dt.keep (TK.new (o := .tup [.ref e3, .ref r]) ne4) q1
        have K10 := K9.new (o := .tup [.ref e3, .ref r]) ne4
        generalize upd H9 e4 (.tup [.ref e3, .ref r]) = H10 at K10 q1 q3 nl
        have K11 := K10.new (o := .lst [.ref e2, .ref e4]) nl
        have hl : (upd H10 l (.lst [.ref e2, .ref e4])) l = some (.lst [.ref e2, .ref e4]) := upd_same
        have q1 := Dt.keep (TK.new (o := .lst [.ref e2, .ref e4]) nl) q1
        have q3 := Dt.keep (TK.new (o := .lst [.ref e2, .ref e4]) nl) q3
        generalize upd H10 l (.lst [.ref e2, .ref e4]) = H11 at K11 hl q1 q3
        obtain ⟨v, x', hv, okx, hvd⟩ : ∃ (v : V) (x' : Pap), atI [V.ref e2, .ref e4] at' = some v ∧ PapOk (2 * B + 1000000) x' ∧ Dt H11 v (papD x') := by
          rcases atc with rfl | rfl
          · exact ⟨_, _, atI_nat (j := 0) rfl, ⟨pok', okn, n2⟩, q1⟩
          · exact ⟨_, _, atI_nat (j := 1) rfl, ⟨⟨okn, pok'.2.1, pok'.2.2⟩, n1, n2⟩, q3⟩
        refine ⟨_, rfl, l, _, at', v, rfl, rfl, SqL.of hl, hv, (by show 2 ≤ sizeLine; decide), fun e5 ne5 => ?_⟩
        exact q _ _ n x' ((K11.new ne5).mono (by omega)) (.tup upd_same (.cons (.int _) (.cons (Dt.keep (TK.new ne5) hvd) .nil))) okx
    obtain ⟨rfl, rfl⟩ := hM
    refine ⟨fun σ' H' => σ' = [some (.ref d), some (.ref t), some (.int n), some (.ref g), some (.ref pg), some (.ref r), some (.ref a), some (.str (S place)), some (.int at'), some (.int way), none, none, none, none] ∧ H3 = H', ?_, fun σ' H' hM => ?_⟩
    · refine ⟨_, rfl, rfl, _, rfl, ?_⟩
      refine ite2 (fun z => ?_) (fun z => ⟨rfl, rfl⟩)
      refine ⟨_, rfl, _, rfl, _, rfl, r, _, rfl, hr3.sq, fun e2 ne2 => ⟨(by show 2 ≤ sizeLine; decide), fun e3 ne3 => ⟨(by show 2 ≤ sizeLine; decide), fun e4 ne4 => ?_⟩⟩⟩
      have K4 := K3.new (o := .tup [.str (S x2), .str (S x1)]) ne2
      exact q _ _ n (pt, x2, x1) (((K4.new ne3).new ne4).mono (by omega)) (num_made (x := (pt, x2, x1)) (Dt.keep K4.tk hp) pair_made ne3 ne4) ⟨pok', n2, n1⟩
    obtain ⟨rfl, rfl⟩ := hM
    refine ⟨_, rfl, _, rfl, _, rfl, _, rfl, d, .ref t, .ref pg, k + 1 + 1 + 1, pl, ts, pt, B, rfl, K3.sd, by omega, Dt.keep K3.tk hd, hz.keep K3.tk, fine, Dt.keep K3.tk hp, pok, B2, fun H4 v' p' K4 hv' ok' => ?_⟩
    have K5 : Kep d H H4 (k + 20) := ⟨K3.sm.trans K4.sm, K3.tk.trans K4.tk, K4.sd.mono (by omega)⟩
    refine ⟨_, rfl, (by show 2 ≤ sizeLine; decide), fun e3 ne3 => ⟨(by show 2 ≤ sizeLine; decide), fun e4 ne4 => ?_⟩⟩
    exact q _ _ n (p', x1, x2) ((K5.new ne3).new ne4) (num_made (x := (p', x1, x2)) hv' (Dt.keep K4.tk hpair3) ne3 ne4) ⟨ok', n1, n2⟩
end
end Far

namespace Far
open PySem PySem.Spec PyProof.Rows L2
open SX (S)
/-! ### the middle of a farthest pair is a point that all places are near to -/
/-- of two places of a way the nearer one stands on the way to the other -/
theorem IsTree.between {pl : List Nm} {ts : List Tie} (F : IsTree pl ts) {u x m l : Nm} (hu : u ∈ pl) (hx : x ∈ pl) (hm : m ∈ path ts u x) (hl : l ∈ path ts u x) (le : dist ts u m ≤ dist ts u l) : dist ts u m + dist ts m l = dist ts u l := by
  have w := F.the_way hu hx
  have pin : ∀ y ∈ path ts u x, y ∈ pl := fun y hy => w.inside (fun e he => ⟨(F.ties e he).1, (F.ties e he).2.1⟩) hu y hy
  obtain ⟨p1, p2, e⟩ := List.append_of_mem hl
  obtain ⟨L1, L2, w1, _, _⟩ := w.split e
  have e1 := F.is_way w1
  have rise := (w.rising F).1
  have hm' : m ∈ path ts u l := by
    rw [e1.1]
    rw [e] at hm
    rcases List.mem_append.mp hm with z | z
    · exact List.mem_append_left _ z
    · rcases List.mem_cons.mp z with z | z
      · exact z ▸ List.mem_append_right _ (List.mem_singleton.mpr rfl)
      · exfalso
        rw [e, List.map_append, List.map_cons] at rise
        have := (List.pairwise_cons.mp (List.pairwise_append.mp rise).2.1).1 _ (List.mem_map_of_mem z)
        omega
  exact (F.over hu (pin l hl) (pin m hm)).2.1.mpr hm'
/-- where the ways of three places meet -/
theorem IsTree.meet {pl : List Nm} {ts : List Tie} (F : IsTree pl ts) {u x y : Nm} (hu : u ∈ pl) (hx : x ∈ pl) (hy : y ∈ pl) : ∃ m ∈ path ts u x, m ∈ pl ∧ dist ts u m + dist ts m x = dist ts u x ∧ dist ts u m + dist ts m y = dist ts u y ∧ dist ts y m + dist ts m x = dist ts y x := by
  obtain ⟨_, _, m, em⟩ := F.over hu hx hy
  have hm : m ∈ (path ts u x).filter (fun z => decide (z ∈ path ts u y) && decide (z ∈ path ts y x)) := by rw [em]; exact List.mem_singleton.mpr rfl
  obtain ⟨h1, h2⟩ := List.mem_filter.mp hm
  rw [Bool.and_eq_true, decide_eq_true_eq, decide_eq_true_eq] at h2
  have mp : m ∈ pl := (F.the_way hu hx).inside (fun e he => ⟨(F.ties e he).1, (F.ties e he).2.1⟩) hu m h1
  exact ⟨m, h1, mp, (F.over hu hx mp).2.1.mpr h1, (F.over hu hy mp).2.1.mpr h2.1, (F.over hy hx mp).2.1.mpr h2.2⟩
def halfP (n : Int) : Int × Int := if n % 2 = 0 then (n / 2, 1) else (n, 2)
theorem halfP_D (n : Int) : halfD n = .tuple [.int (halfP n).1, .int (halfP n).2] := by
  unfold halfD halfP
  split <;> rfl
theorem halfP_is (n : Int) : 2 * (halfP n).1 = n * (halfP n).2 ∧ ((halfP n).2 = 1 ∨ (halfP n).2 = 2) ∧ ((Nat.gcd (halfP n).1.natAbs (halfP n).2.natAbs : Nat) : Int) = 1 := by
  unfold halfP
  by_cases c : n % 2 = 0
  · rw [if_pos c]
    refine ⟨by show 2 * (n / 2) = n * 1; omega, .inl rfl, ?_⟩
    show ((Nat.gcd (n / 2).natAbs 1 : Nat) : Int) = 1
    rw [Nat.gcd_one_right]
    rfl
  · rw [if_neg c]
    refine ⟨by show 2 * n = n * 2; omega, .inr rfl, ?_⟩
    show ((Nat.gcd n.natAbs 2 : Nat) : Int) = 1
    have := gcd_two n
    rw [if_neg c] at this
    exact this
/-- the point amid the way between two places -/
noncomputable def mpt (pl : List Nm) (ts : List Tie) (u x : Nm) : Pt :=
  if 2 * dist ts u (hi ts u x) = dist ts u x then (hi ts u x, hi ts u x, 0, 1)
  else if pl.idxOf (lo ts u x) < pl.idxOf (hi ts u x) then (lo ts u x, hi ts u x, halfP (dist ts u x - 2 * dist ts u (lo ts u x)))
  else (hi ts u x, lo ts u x, halfP (2 * dist ts u (hi ts u x) - dist ts u x))
theorem mpt_D (pl : List Nm) (ts : List Tie) (u x : Nm) : pointD pl ts u x = ptD (mpt pl ts u x) := by
  unfold pointD mpt
  by_cases c : 2 * dist ts u (hi ts u x) = dist ts u x
  · rw [if_pos c, if_pos c]
    rfl
  · rw [if_neg c, if_neg c]
    by_cases c2 : pl.idxOf (lo ts u x) < pl.idxOf (hi ts u x)
    · rw [if_pos c2, if_pos c2, halfP_D]
      rfl
    · rw [if_neg c2, if_neg c2, halfP_D]
      rfl
theorem half_ok {n : Int} : -2 ≤ (halfP n).2 ∧ (halfP n).2 ≤ 2 := by
  rcases (halfP_is n).2.1 with e | e <;> rw [e] <;> decide
theorem mpt_ok {pl : List Nm} {ts : List Tie} (F : Fine pl ts) {u x : Nm} (hu : u ∈ pl) (hx : x ∈ pl) : PtOk 2 (mpt pl ts u x) := by
  have mf := mid_facts F.tree hu hx
  have pin : ∀ y ∈ path ts u x, y ∈ pl := fun y hy => (F.tree.the_way hu hx).inside (fun e he => ⟨(F.tree.ties e he).1, (F.tree.ties e he).2.1⟩) hu y hy
  have nh := F.ok _ (pin _ mf.hiM)
  unfold mpt
  by_cases c : 2 * dist ts u (hi ts u x) = dist ts u x
  · rw [if_pos c]
    exact ⟨nh, nh, (by show (-2 : Int) ≤ 1; decide), (by show (1 : Int) ≤ 2; decide)⟩
  · rw [if_neg c]
    have nl := F.ok _ (pin _ (mf.loE c).2.2.1)
    by_cases c2 : pl.idxOf (lo ts u x) < pl.idxOf (hi ts u x)
    · rw [if_pos c2]
      exact ⟨nl, nh, half_ok⟩
    · rw [if_neg c2]
      exact ⟨nh, nl, half_ok⟩
section
variable {ts : List Tie} {a b : Nm} {P Q D A L : Int}
theorem core (hq : Q = 1 ∨ Q = 2) (hp : 2 * P = (D - 2 * A) * Q) (hL : dist ts a b = L) (n0 : 0 < D - 2 * A) (n1 : D - 2 * A < 2 * L) {y : Nm} :
    (dist ts a y ≤ A ∨ dist ts b y ≤ D - A - L → dbl ts (a, b, P, Q) y ≤ D * Q) ∧ (dist ts a y = A ∧ dist ts b y = A + L → dbl ts (a, b, P, Q) y = D * Q) ∧ (dist ts a y = D - A ∧ dist ts b y = D - A - L → dbl ts (a, b, P, Q) y = D * Q) := by
  have e : dbl ts (a, b, P, Q) y = 2 * (if (dist ts b y + L) * Q - P < dist ts a y * Q + P then (dist ts b y + L) * Q - P else dist ts a y * Q + P) := by
    unfold dbl mn2
    rw [← hL]
  rw [e]
  rcases hq with rfl | rfl
  · refine ⟨fun h => ?_, fun h => ?_, fun h => ?_⟩ <;> split <;> omega
  · refine ⟨fun h => ?_, fun h => ?_, fun h => ?_⟩ <;> split <;> omega
end
theorem join_symm (a b : Nm) (t : Tie) : joins a b t = joins b a t := by
  unfold joins
  refine decide_eq_decide.mpr ?_
  simp only [List.mem_cons, List.not_mem_nil, or_false]
  exact Or.comm
theorem adj_find {ts : List Tie} {a b : Nm} {k : Int} (h : Adj ts a b k) : ∃ t, ts.find? (joins a b) = some t := by
  obtain ⟨t, ht, jt⟩ : ∃ t ∈ ts, joins a b t = true := by
    rcases h with h | h
    · exact ⟨_, h, decide_eq_true (by simp)⟩
    · exact ⟨_, h, decide_eq_true (by simp)⟩
  cases e : ts.find? (joins a b) with
  | some t => exact ⟨t, rfl⟩
  | none => exact absurd jt (List.find?_eq_none.mp e t ht)
theorem isPt_tie {pl : List Nm} {ts : List Tie} (F : IsTree pl ts) {a b : Nm} {P Q k : Int} (ne : a ≠ b) (h : Adj ts a b k) (q1 : 1 ≤ Q) (g : ((Nat.gcd P.natAbs Q.natAbs : Nat) : Int) = 1) (p0 : 0 < P) (p1 : P < dist ts a b * Q) (lt : pl.idxOf a < pl.idxOf b) : isPt pl ts (a, b, P, Q) = true := by
  obtain ⟨t, ht⟩ := adj_find h
  have el := tie_len F ne (List.mem_of_find?_eq_some ht) (List.find?_some ht)
  unfold isPt
  rw [if_neg ne]
  show (if Q < 1 then false else if ((Nat.gcd P.natAbs Q.natAbs : Nat) : Int) ≠ 1 then false else match ts.find? (joins a b) with | none => false | some t => decide (0 < P) && decide (P < t.2.2 * Q) && decide (pl.idxOf a < pl.idxOf b)) = true
  rw [if_neg (by omega), if_neg (fun z => z g), ht]
  show (decide (0 < P) && decide (P < t.2.2 * Q) && decide (pl.idxOf a < pl.idxOf b)) = true
  rw [← el, decide_eq_true p0, decide_eq_true p1, decide_eq_true lt]
  rfl
theorem mid_shown {pl : List Nm} {ts : List Tie} (F : Fine pl ts) {u x : Nm} (hu : u ∈ pl) (hx : x ∈ pl) (top : ∀ y ∈ pl, ∀ z ∈ pl, dist ts y z ≤ dist ts u x) : shown pl ts (dist ts u x) (mpt pl ts u x, u, x) = true := by
  have T := F.tree
  have mf := mid_facts T hu hx
  have pin : ∀ y ∈ path ts u x, y ∈ pl := fun y hy => (T.the_way hu hx).inside (fun e he => ⟨(T.ties e he).1, (T.ties e he).2.1⟩) hu y hy
  have tri := fun {a b c : Nm} (ha : a ∈ pl) (hb : b ∈ pl) (hc : c ∈ pl) => (T.over ha hb hc).1
  have sy := fun {a b : Nm} (ha : a ∈ pl) (hb : b ∈ pl) => (T.dist_symm ha hb).1
  have onp := fun {m : Nm} (hm : m ∈ path ts u x) => (T.over hu hx (pin m hm)).2.1.mpr hm
  have hh := pin _ mf.hiM
  have oh := onp mf.hiM
  -- how far a place is from where its way meets the way
  have key : ∀ y ∈ pl, ∃ m ∈ path ts u x, dist ts m y ≤ dist ts u m ∧ dist ts m y ≤ dist ts m x ∧ dist ts u m + dist ts m x = dist ts u x := fun y hy => by
    obtain ⟨m, m1, m2, e1, e2, e3⟩ := T.meet hu hx hy
    have t1 := top u hu y hy
    have t2 := top y hy x hx
    have s1 := sy hy m2
    exact ⟨m, m1, by omega, by omega, e1⟩
  have fin : isPt pl ts (mpt pl ts u x) = true → dbl ts (mpt pl ts u x) u = dist ts u x * (mpt pl ts u x).2.2.2 → dbl ts (mpt pl ts u x) x = dist ts u x * (mpt pl ts u x).2.2.2 → (∀ y ∈ pl, dbl ts (mpt pl ts u x) y ≤ dist ts u x * (mpt pl ts u x).2.2.2) → shown pl ts (dist ts u x) (mpt pl ts u x, u, x) = true := fun h1 h2 h3 h4 => by
    unfold shown
    dsimp only
    rw [h1, decide_eq_true ⟨hu, hx, rfl, h2, h3, h4⟩]
    rfl
  have eh := sy hh hu
  by_cases c : 2 * dist ts u (hi ts u x) = dist ts u x
  · have em : mpt pl ts u x = (hi ts u x, hi ts u x, 0, 1) := by
      unfold mpt
      rw [if_pos c]
    rw [em] at fin ⊢
    refine fin ?_ ?_ ?_ fun y hy => ?_
    · unfold isPt
      rw [if_pos rfl, decide_eq_true hh]
      rfl
    · rw [dbl_place T]
      show 2 * dist ts (hi ts u x) u = dist ts u x * 1
      omega
    · rw [dbl_place T]
      show 2 * dist ts (hi ts u x) x = dist ts u x * 1
      omega
    · rw [dbl_place T]
      show 2 * dist ts (hi ts u x) y ≤ dist ts u x * 1
      obtain ⟨m, m1, k1, k2, k3⟩ := key y hy
      have m2 := pin m m1
      have t1 := tri hh hy m2
      have s1 := sy hh m2
      by_cases d : dist ts u m ≤ dist ts u (hi ts u x)
      · have := T.between hu hx m1 mf.hiM d
        omega
      · have := T.between hu hx mf.hiM m1 (by omega)
        omega
  · obtain ⟨k1, loE, loM, loL⟩ := mf.loE c
    have hl := pin _ loM
    have ol := onp loM
    have el := sy hl hu
    have ge := mf.ge
    have bt := T.between hu hx loM mf.hiM (by omega)
    obtain ⟨ks, _, _, hop⟩ := (T.the_way hu hx).hops
    obtain ⟨k, _, adj⟩ := hop (midK ts u x - 1) _ _ loE (by rw [Nat.sub_add_cancel k1]; exact mf.hiE)
    have ne := T.adj_ne adj
    have slh := sy hl hh
    -- near to one or the other
    have near : ∀ y ∈ pl, dist ts (lo ts u x) y ≤ dist ts u (lo ts u x) ∨ dist ts (hi ts u x) y ≤ dist ts u x - dist ts u (hi ts u x) := fun y hy => by
      obtain ⟨m, m1, k1, k2, k3⟩ := key y hy
      have m2 := pin m m1
      by_cases d : 2 * dist ts u m < dist ts u x
      · have h1 := (mf.low m m1 d).1
        have h2 := T.between hu hx m1 loM h1
        have t1 := tri hl hy m2
        have s1 := sy hl m2
        exact .inl (by omega)
      · have d2 : dist ts u x < 2 * dist ts u m := by
          by_cases e : 2 * dist ts u m = dist ts u x
          · have := mf.only m m1 e
            rw [this] at e
            exact absurd e c
          · omega
        have h1 := (mf.high m m1 d2).1
        have h2 := T.between hu hx mf.hiM m1 h1
        have t1 := tri hh hy m2
        exact .inr (by omega)
    by_cases c2 : pl.idxOf (lo ts u x) < pl.idxOf (hi ts u x)
    · obtain ⟨g1, g2, g3⟩ := halfP_is (dist ts u x - 2 * dist ts u (lo ts u x))
      have em : mpt pl ts u x = (lo ts u x, hi ts u x, halfP (dist ts u x - 2 * dist ts u (lo ts u x))) := by
        unfold mpt
        rw [if_neg c, if_pos c2]
      rw [em] at fin ⊢
      clear em
      generalize halfP (dist ts u x - 2 * dist ts u (lo ts u x)) = pq at g1 g2 g3 fin ⊢
      obtain ⟨PP, QQ⟩ := pq
      dsimp only at g1 g2 g3 fin
      have co := fun {y : Nm} => core (ts := ts) (a := lo ts u x) (b := hi ts u x) (y := y) g2 g1 rfl (by omega) (by omega)
      refine fin (isPt_tie T (fun e => ne e.symm) adj (by omega) g3 ?_ ?_ c2) (co.2.1 ⟨by omega, by omega⟩) (co.2.2 ⟨by omega, by omega⟩) fun y hy => co.1 ?_
      · rcases g2 with rfl | rfl <;> omega
      · rcases g2 with rfl | rfl <;> omega
      · rcases near y hy with z | z
        · exact .inl z
        · exact .inr (by omega)
    · obtain ⟨g1, g2, g3⟩ := halfP_is (2 * dist ts u (hi ts u x) - dist ts u x)
      have em : mpt pl ts u x = (hi ts u x, lo ts u x, halfP (2 * dist ts u (hi ts u x) - dist ts u x)) := by
        unfold mpt
        rw [if_neg c, if_neg c2]
      have lt2 : pl.idxOf (hi ts u x) < pl.idxOf (lo ts u x) := by
        have n1 : pl.idxOf (lo ts u x) ≠ pl.idxOf (hi ts u x) := fun e => by
          have h1 := (idx_at T.nodup hl).1
          rw [e, (idx_at T.nodup hh).1] at h1
          exact ne (SX.S_inj (Option.some.inj h1))
        omega
      rw [em] at fin ⊢
      clear em
      generalize halfP (2 * dist ts u (hi ts u x) - dist ts u x) = pq at g1 g2 g3 fin ⊢
      obtain ⟨PP, QQ⟩ := pq
      dsimp only at g1 g2 g3 fin
      have co := fun {y : Nm} => core (ts := ts) (a := hi ts u x) (b := lo ts u x) (D := dist ts u x) (A := dist ts u x - dist ts u (hi ts u x)) (y := y) g2 (by rw [g1]; congr 1; omega) rfl (by omega) (by omega)
      refine fin (isPt_tie T ne adj.symm (by omega) g3 ?_ ?_ lt2) (co.2.2 ⟨by omega, by omega⟩) (co.2.1 ⟨by omega, by omega⟩) fun y hy => co.1 ?_
      · rcases g2 with rfl | rfl <;> omega
      · rcases g2 with rfl | rfl <;> omega
      · rcases near y hy with z | z
        · exact .inr (by omega)
        · exact .inl z
end Far

namespace Far
open PySem PySem.Spec PyProof.Rows L2
open C8 (pss_cut tCut)
open SX (S)
theorem kit_cls (K : PySem.W.Frag) {a b : String} {r : Bool} (h : kitB a b = some r) : PySem.W.kitOne K (.type a) (.type b) = some r := kit_ty h
def numX (z : Int × Pap) : PyData := numD z.1 z.2
/-- what stands apart from the deck and from the list that grows -/
structure Ap (d L P : Addr) (pl : List Nm) (ad : Nm → Addr) (H0 : Hp) : Prop where
  ld : L ≠ d
  dd : ∀ u ∈ pl, ad u ≠ d
  pd : P ≠ d
  lp : L ≠ P
  ap : ∀ u ∈ pl, ad u ≠ P
  free : H0 P = none
structure Wr (d L P : Addr) (pl : List Nm) (ts : List Tie) (ad : Nm → Addr) (H0 H : Hp) (k : Nat) (xs : List (Int × Pap)) : Prop where
  kep : Kep d H0 H k
  rows : RowsAt H L pl pl ts ad
  pp : ∃ ws, H P = some (.lst ws) ∧ DtAll H ws (xs.map numX)
section
variable {d L P : Addr} {pl : List Nm} {ts : List Tie} {ad : Nm → Addr} {H0 H : Hp} {k : Nat} {xs : List (Int × Pap)}
theorem Wr.new {p : Addr} {o : HO} (w : Wr d L P pl ts ad H0 H k xs) (n : H p = none) : Wr d L P pl ts ad H0 (upd H p o) k xs := by
  obtain ⟨ws, h1, h2⟩ := w.pp
  exact ⟨w.kep.new n, w.rows.keep (same_new (Same.refl H) n), ws, by rw [upd_ne (ne_of_none h1 n)]; exact h1, DtAll.keep (TK.new n) h2⟩
theorem Wr.same {H' : Hp} (w : Wr d L P pl ts ad H0 H k xs) (s : Same H H') : Wr d L P pl ts ad H0 H' k xs := by
  obtain ⟨ws, h1, h2⟩ := w.pp
  exact ⟨w.kep.same s, w.rows.keep s, ws, s _ _ h1, DtAll.keep (TK.of s) h2⟩
theorem Wr.mono {m : Nat} (w : Wr d L P pl ts ad H0 H k xs) (h : k ≤ m) : Wr d L P pl ts ad H0 H m xs := ⟨w.kep.mono h, w.rows, w.pp⟩
theorem Wr.on {H' : Hp} {m : Nat} (A : Ap d L P pl ad H0) (w : Wr d L P pl ts ad H0 H k xs) (K : Kep d H H' m) : Wr d L P pl ts ad H0 H' m xs := by
  obtain ⟨ws, h1, h2⟩ := w.pp
  exact ⟨⟨w.kep.sm.trans K.sm, w.kep.tk.trans K.tk, K.sd⟩, ⟨K.sm _ _ A.ld w.rows.all, fun u hu => K.sm _ _ (A.dd u hu) (w.rows.each u hu), w.rows.ne⟩, ws, K.sm _ _ A.pd h1, DtAll.keep K.tk h2⟩
theorem Wr.draw {H' : Hp} {m : Nat} (A : Ap d L P pl ad H0) (w : Wr d L P pl ts ad H0 H k xs) (s : SmX d H H') (sd : SeedAt H' d m) : Wr d L P pl ts ad H0 H' m xs := w.on A ((Kep.refl w.kep.sd).draw s sd)
theorem Wr.app {v : V} {z : Int × Pap} (A : Ap d L P pl ad H0) (w : Wr d L P pl ts ad H0 H k xs) (hv : Dt H v (numX z)) : ∃ ws, H P = some (.lst ws) ∧ ws.length = xs.length ∧ Wr d L P pl ts ad H0 (upd H P (.lst (ws ++ [v]))) k (xs ++ [z]) := by
  obtain ⟨ws, h1, h2⟩ := w.pp
  have l := DtAll.len h2
  rw [List.length_map] at l
  have t : TK H (upd H P (.lst (ws ++ [v]))) := TK.mut h1
  refine ⟨ws, h1, l, ⟨w.kep.sm.put A.free, w.kep.tk.trans t, w.kep.sd.put A.pd⟩, ⟨by rw [upd_ne A.lp]; exact w.rows.all, fun u hu => by rw [upd_ne (A.ap u hu)]; exact w.rows.each u hu, w.rows.ne⟩, ws ++ [v], upd_same, ?_⟩
  rw [List.map_append]
  exact DtAll.keep t (DtAll.app h2 (.cons hv .nil))
end
theorem dt_num {H : Hp} {v : V} {z : Int × Pap} (h : Dt H v (numX z)) : ∃ (e : Addr) (y : V), v = .ref e ∧ H e = some (.tup [.int z.1, y]) ∧ Dt H y (papD z.2) := by
  obtain ⟨e, x, y, rfl, he, hx, hy⟩ := dt_pair h fun l q => nomatch q
  cases hx
  exact ⟨e, y, rfl, he, hy⟩
abbrev s_law_right : Stmt := topS 29
abbrev N_law_right : List Str := ["seed", "tree", "lengths", "most", "ends", "begin", "end", "papers", "turn", "pair", "far", "point", "number", "paper", "due", "found", "at", "row"]
theorem sc_law_right : FnScope N_law_right ["seed", "tree"] (defScope s_law_right) := ⟨rfl, rfl, rfl, by decide +kernel, rfl, by decide +kernel, by decide +kernel⟩
section
variable {P : Program} {w : World} {K : PySem.W.Frag} {mg : Str → Option Value} {base : Heap}
def spRight : Sp := fun vs H Q _ => ∃ (d : Addr) (k : Nat) (v : V) (pl : List Nm) (ts : List Tie), vs = [.ref d, v] ∧ SeedAt H d k ∧ k < 70000 ∧ Dt H v (treeD pl ts) ∧ PlZ H v pl ∧ Fine pl ts ∧ ∀ H' : Hp, SmX d H H' → SeedAt H' d (k + 1000) → Q (.bl true) H'
theorem ok_right {f : Addr} {fd : FuncData} (F : Fun K "_law_right" "_law_right" s_law_right f fd) (T : TxtM mg) (C_law_draw : Cal P w K mg base 1 "_law_draw" spDraw) (C_law_lengths : Cal P w K mg base 2 "_law_lengths" spLengths) (C_law_amid : Cal P w K mg base 2 "_law_amid" spAmid) (C_law_bent : Cal P w K mg base 3 "_law_bent" spBent)
    (C_law_due : Cal P w K mg base 3 "_law_due" spDueP) (Cpaper_shown : Cal P w K mg base 5 "paper_shown" spShown) : FnOk P w K mg base CX0 6 f fd ["seed", "tree"] spRight := by
  refine F.ok sc_law_right (fun vs H Q E h => ?_) (fun cdv A outer s H vs Q E hr h => ?_)
  · obtain ⟨d, k, v, pl, ts, rfl, _⟩ := h
    rfl
  · obtain ⟨d, k, v, pl, ts, rfl, SD, hk, hd, hz, fine, q⟩ := h
    obtain ⟨t, a, b, vs, rfl, ht, ha, hb, hA⟩ := dt_tree hd
    have pl1 := fine.len
    have nd := fine.tree.nodup
    have plp : 0 < pl.length := List.length_pos_iff.mpr fine.ne
    have sqn : ((pl.map S).map V.str).length = pl.length := by rw [List.length_map, List.length_map]
    refine ⟨_, (pss_cons (ps_set (i := 2) sc_law_right.nd rfl (.inl rfl) (pe_c C_law_lengths hr (by decide) rfl (pa_cons (pv 1) pa_nil)))
      (pss_cons (ps_set (i := 3) sc_law_right.nd rfl (.inr rfl) (pe_callB (cr_max rfl) (by rfl) T.max bt_max (pa_cons (pe_lc (own := [("row", 17)]) (g := gName 17) (tt := tYes) rfl sc_law_right.nd (pi_list (pv 2)) (blkOk_by (N := N_law_right) (sc := defScope s_law_right) (by decide +kernel)) (fun _ _ _ _ _ => pg_name (i := 17) sc_law_right.nd rfl (Or.inl rfl)) (fun _ _ _ _ _ => pts_nil) (fun _ _ _ _ _ => (pe_callB (cr_maxL (K := K) rfl) (by rfl) T.max bt_max (pa_cons (pv 17) pa_nil)))) pa_nil)))
      (pss_cons (ps_setLc (i := 4) (own := [("at", 16), ("row", 17)]) (g := gTup K 2 (gCons (gName 16) (gCons (gName 17) gNil)))  rfl sc_law_right.nd rfl rfl (sw_true rfl rfl rfl (by decide +kernel)) (pi_enum (by rfl) T.enumerate (pa_cons (pv 2) pa_nil)) (blkOk_by (N := N_law_right) (sc := defScope s_law_right) (by decide +kernel)) (fun _ _ _ _ _ => (pg_tup rfl (pgs_cons (pg_name (i := 16) sc_law_right.nd rfl (.inl rfl)) (pgs_cons (pg_name (i := 17) sc_law_right.nd rfl (.inl rfl)) pgs_nil)))) (fun _ _ _ _ _ => pts_one (pt_cmpR op_eq (pe_callB (cr_maxL (K := K) rfl) (by rfl) T.max bt_max (pa_cons (pv 17) pa_nil)) (pv 3) (nomark _))) (fun _ _ _ _ _ => (pv 16)))
      (pss_cons (ps_set (i := 5) sc_law_right.nd rfl (.inl rfl) (pe_ix ix_list (pv 4) (pe_c C_law_draw hr (by decide) rfl (pa_cons (pv 0) (pa_cons (pe_callB call_len_seq (by rfl) T.len bt_len (pa_cons (pv 4) pa_nil)) pa_nil))) (fun _ _ => rfl)))
      (pss_cut (ps_set (i := 6) sc_law_right.nd rfl (.inl rfl) (pe_bm PySem.F.plainAttrs_list PySem.F.slot_list_index PySem.F.type_list_index mt_index (pe_ix ix_list (pv 2) (pv 5) (fun _ _ => rfl)) (pa_cons (pv 3) pa_nil)))
      (pss_cut (ps_set (i := 7) sc_law_right.nd rfl (.inl rfl) (pe_lst (pa_cons (pe_tup (pa_cons (pv 3) (pa_cons (pe_tup (pa_cons (pe_c C_law_amid hr (by decide) rfl (pa_cons (pv 1) (pa_cons (pv 2) (pa_cons (pv 5) (pa_cons (pv 6) pa_nil))))) (pa_cons (pe_tup (pa_cons (pe_ix ix_tup (pe_ix ix_tup (pv 1) pe_int (fun _ _ => rfl)) (pv 5) (fun _ _ => rfl)) (pa_cons (pe_ix ix_tup (pe_ix ix_tup (pv 1) pe_int (fun _ _ => rfl)) (pv 6) (fun _ _ => rfl)) pa_nil))) pa_nil))) pa_nil))) pa_nil)))
      (pss_cut (ps_for PassesOwn.never rfl (pi_range1 (by rfl) T.range (pa_cons pe_int pa_nil)) (pg_name (i := 8) sc_law_right.nd rfl (.inl rfl))
        (pss_cons (ps_set (i := 9) sc_law_right.nd rfl (.inl rfl) (pe_lst (pa_cons (pe_c C_law_draw hr (by decide) rfl (pa_cons (pv 0) (pa_cons (pe_callB call_len_seq (by rfl) T.len bt_len (pa_cons (pe_ix ix_tup (pv 1) pe_int (fun _ _ => rfl)) pa_nil)) pa_nil))) (pa_cons (pe_c C_law_draw hr (by decide) rfl (pa_cons (pv 0) (pa_cons (pe_callB call_len_seq (by rfl) T.len bt_len (pa_cons (pe_ix ix_tup (pv 1) pe_int (fun _ _ => rfl)) pa_nil)) pa_nil))) pa_nil))))
        (pss_cons (ps_set (i := 10) sc_law_right.nd rfl (.inl rfl) (pe_ix ix_list (pe_ix ix_list (pv 2) (pe_ix ix_list (pv 9) pe_int (fun _ _ => rfl)) (fun _ _ => rfl)) (pe_ix ix_list (pv 9) pe_int (fun _ _ => rfl)) (fun _ _ => rfl)))
        (pss_cons (ps_set (i := 11) sc_law_right.nd rfl (.inl rfl) (pe_c C_law_amid hr (by decide) rfl (pa_cons (pv 1) (pa_cons (pv 2) (pa_cons (pe_ix ix_list (pv 9) pe_int (fun _ _ => rfl)) (pa_cons (pe_ix ix_list (pv 9) pe_int (fun _ _ => rfl)) pa_nil))))))
        (pss_one (ps_expr (pe_bm PySem.F.plainAttrs_list PySem.F.slot_list_append PySem.F.type_list_append mt_append (pv 7) (pa_cons (pe_tup (pa_cons (pv 10) (pa_cons (pe_tup (pa_cons (pv 11) (pa_cons (pe_tup (pa_cons (pe_ix ix_tup (pe_ix ix_tup (pv 1) pe_int (fun _ _ => rfl)) (pe_ix ix_list (pv 9) pe_int (fun _ _ => rfl)) (fun _ _ => rfl)) (pa_cons (pe_ix ix_tup (pe_ix ix_tup (pv 1) pe_int (fun _ _ => rfl)) (pe_ix ix_list (pv 9) pe_int (fun _ _ => rfl)) (fun _ _ => rfl)) pa_nil))) pa_nil))) pa_nil))) pa_nil))))))))
      (pss_cut (ps_for PassesOwn.never rfl (pi_range1 (by rfl) T.range (pa_cons pe_int pa_nil)) (pg_name (i := 8) sc_law_right.nd rfl (.inl rfl))
        (pss_cons (ps_asg (pe_ix ix_list (pv 7) (pe_op op_mod (pe_callB (call_max2 rfl) (by rfl) T.max bt_max (pa_cons pe_int (pa_cons (pe_op op_sub (pv 8) pe_int) pa_nil))) pe_int) (fun _ _ => rfl)) (pg_tup rfl (pgs_cons (pg_name (i := 12) sc_law_right.nd rfl (.inl rfl)) (pgs_cons (pg_name (i := 13) sc_law_right.nd rfl (.inl rfl)) pgs_nil))))
        (pss_cons (ps_expr (pe_bm PySem.F.plainAttrs_list PySem.F.slot_list_append PySem.F.type_list_append mt_append (pv 7) (pa_cons (pe_c C_law_bent hr (by decide) rfl (pa_cons (pv 0) (pa_cons (pv 1) (pa_cons (pv 12) (pa_cons (pv 13) pa_nil))))) pa_nil)))
        (pss_cons (ps_asg (pe_ix ix_list (pv 7) (pe_un un_neg pe_int) (fun _ _ => rfl)) (pg_tup rfl (pgs_cons (pg_name (i := 12) sc_law_right.nd rfl (.inl rfl)) (pgs_cons (pg_name (i := 13) sc_law_right.nd rfl (.inl rfl)) pgs_nil))))
        (pss_one (ps_if (pt_cmpR op_eq (pe_c C_law_draw hr (by decide) rfl (pa_cons (pv 0) (pa_cons pe_int pa_nil))) pe_int (nomark _))
          (pss_one (ps_expr (pe_bm PySem.F.plainAttrs_list PySem.F.slot_list_append PySem.F.type_list_append mt_append (pv 7) (pa_cons (pe_c C_law_bent hr (by decide) rfl (pa_cons (pv 0) (pa_cons (pv 1) (pa_cons (pv 12) (pa_cons (pv 13) pa_nil))))) pa_nil))))
          pss_nil))))))
      (pss_cut (ps_for PassesOwn.never rfl (pi_list (pv 7)) (pg_tup rfl (pgs_cons (pg_name (i := 12) sc_law_right.nd rfl (.inl rfl)) (pgs_cons (pg_name (i := 13) sc_law_right.nd rfl (.inl rfl)) pgs_nil)))
        (pss_cons (ps_set (i := 14) sc_law_right.nd rfl (.inl rfl) (pe_c C_law_due hr (by decide) rfl (pa_cons (pv 1) (pa_cons (pv 2) (pa_cons (pv 12) (pa_cons (pv 13) pa_nil))))))
        (pss_one (ps_for PassesOwn.never rfl (pi_range1 (by rfl) T.range (pa_cons pe_int pa_nil)) (pg_name (i := 8) sc_law_right.nd rfl (.inl rfl))
          (pss_cons (ps_set (i := 15) sc_law_right.nd rfl (.inl rfl) (pe_c Cpaper_shown hr (by decide) rfl (pa_cons (pv 1) (pa_cons (pv 12) (pa_cons (pv 13) pa_nil)))))
          (pss_one (ps_if (PW.pt (pw_or (pt_not (pt_val (pe_callB call_isi (by rfl) T.isinstance bt_isinstance (pa_cons (pv 15) (pa_cons (pe_bltn (v := .ty "bool") (by rfl) T.bool bt_bool rfl) pa_nil))))) (pw_or1 (pt_cmpR op_ne (pv 15) (pv 14) (nomark _)))))
            (pss_one (ps_ret pe_bl))
            pss_nil)))))))
      (pss_one (ps_ret (pe_c C_law_due hr (by decide) rfl (pa_cons (pv 1) (pa_cons (pv 2) (pa_cons (pe_ix ix_tup (pe_ix ix_list (pv 7) pe_int (fun _ _ => rfl)) pe_int (fun _ _ => rfl)) (pa_cons (pe_ix ix_tup (pe_ix ix_list (pv 7) pe_int (fun _ _ => rfl)) pe_int (fun _ _ => rfl)) pa_nil)))))))))))))))), ?_⟩
    refine ⟨_, rfl, .ref t, pl, ts, rfl, hd, fine, fun H1 L ad S1 nL rows free => ?_⟩
    have K1 := (Kep.refl SD).same S1
    have ld : L ≠ d := fun e => by
      obtain ⟨xs, hx⟩ := SD.lst
      rw [← e, nL] at hx
      cases hx
    have dd : ∀ u ∈ pl, ad u ≠ d := fun u hu e => by
      obtain ⟨xs, hx⟩ := SD.lst
      rw [← e, free u hu] at hx
      cases hx
    refine ⟨_, rfl, L, rfl, ⟨_, SqL.of rows.all⟩, fun D nD => ?_⟩
    refine lc_list (K := K) (a := L) (xs := pl.map fun u => .ref (ad u)) (fun i H' => Same H1 H' ∧ H' D = some (.lst (((pl.take i).map (rch pl ts)).map V.int))) ⟨same_new (Same.refl H1) nD, upd_same⟩ (fun i H' _ hP => SqL.of (hP.1 _ _ rows.all)) (fun i v H' hi hP => ?_) (fun H' hP => ?_)
    · obtain ⟨SM, hD⟩ := hP
      rw [List.getElem?_map] at hi
      cases el : pl[i]? with
      | none => rw [el] at hi; cases hi
      | some x =>
        rw [el] at hi
        have ev : v = .ref (ad x) := (Option.some.inj hi).symm
        subst ev
        have hx := List.mem_of_getElem? el
        have hL := SM _ _ (rows.each x hx)
        rw [map_int] at hL
        refine ⟨rfl, _, rfl, ad x, _, rfl, SqL.of hL, by rw [List.length_map]; exact List.length_pos_of_mem hx, fun m hm hle => ?_⟩
        rw [mxG_is hm hle]
        refine ⟨_, hD, ?_, same_put SM nD, ?_⟩
        · rw [List.length_map, List.length_map, List.length_take]
          exact sz_lt (by omega)
        · rw [upd_same, List.take_add_one, el, List.map_append, List.map_append]
          rfl
    · obtain ⟨SM, hD⟩ := hP
      rw [List.length_map, List.take_length] at hD
      have rows1 := rows.keep SM
      have S2 := S1.trans SM
      refine ⟨D, _, rfl, SqL.of hD, by rw [List.length_map]; exact List.length_pos_iff.mpr fine.ne, fun most hm hle => ?_⟩
      clear hD nD SM rows
      -- what most is
      have rle : ∀ y ∈ pl, ∀ z ∈ pl, dist ts y z ≤ rch pl ts y := fun y hy z hz => (mxG_in (l := pl.map fun x => dist ts y x) (by intro k; rw [List.map_eq_nil_iff] at k; exact fine.ne k)).2 _ (List.mem_map.mpr ⟨z, hz, rfl⟩)
      have rin : ∀ y ∈ pl, ∃ z ∈ pl, dist ts y z = rch pl ts y := fun y hy => by
        obtain ⟨z, hz, e⟩ := List.mem_map.mp (mxG_in (l := pl.map fun x => dist ts y x) (by intro k; rw [List.map_eq_nil_iff] at k; exact fine.ne k)).1
        exact ⟨z, hz, e⟩
      have top : ∀ y ∈ pl, ∀ z ∈ pl, dist ts y z ≤ most := fun y hy z hz => Int.le_trans (rle y hy z hz) (hle _ (List.mem_map.mpr ⟨y, hy, rfl⟩))
      have getk : ∀ {k : Nat}, k < pl.length → pl[k]? = some (pl.getD k []) := fun {k} h => by simp [List.getD, h]
      have memk : ∀ {k : Nat}, k < pl.length → pl.getD k [] ∈ pl := fun h => List.mem_of_getElem? (getk h)
      obtain ⟨bi, br, eb, bl, bp, bn⟩ : ∃ b r, (List.range pl.length).filter (fun k => decide (rch pl ts (pl.getD k []) = most)) = b :: r ∧ b < pl.length ∧ decide (rch pl ts (pl.getD b []) = most) = true ∧ ∀ i, i < b → decide (rch pl ts (pl.getD i []) = most) = false := by
        refine rng_first ?_
        obtain ⟨y, hy, e⟩ := List.mem_map.mp hm
        obtain ⟨j, hj, ej⟩ := List.mem_iff_getElem.mp hy
        refine ⟨j, hj, ?_⟩
        have : pl.getD j [] = y := by simp [List.getD, hj, ej]
        rw [this, e]
        exact decide_eq_true rfl
      have bp : rch pl ts (pl.getD bi []) = most := of_decide_eq_true bp
      -- ends
      refine ⟨_, rfl, L, _, rfl, SqL.of rows1.all, fun D nD => ?_⟩
      have Dd : D ≠ d := ((Kep.refl SD).same S2).sd.nd nD
      refine enum_it (K := K) (a := L) (xs := pl.map fun u => .ref (ad u)) (fun i H'' => Same H' H'' ∧ H'' D = some (.lst (nV ((List.range i).filter fun k => decide (rch pl ts (pl.getD k []) = most))))) ⟨same_new (Same.refl H') nD, upd_same⟩ (fun i H'' hP => SqL.of (hP.1 _ _ rows1.all)) (fun i v H'' T hi hP nT => ?_) (fun H'' hP => ?_)
      · obtain ⟨SM, hD⟩ := hP
        rw [List.getElem?_map] at hi
        cases el : pl[i]? with
        | none => rw [el] at hi; cases hi
        | some x =>
          rw [el] at hi
          have ev : v = .ref (ad x) := (Option.some.inj hi).symm
          subst ev
          have hx := List.mem_of_getElem? el
          have eg : pl.getD i [] = x := by
            show (pl[i]?).getD [] = x
            rw [el]
            rfl
          have il : i < pl.length := (List.getElem?_eq_some_iff.mp el).1
          have DT : D ≠ T := ne_of_none hD nT
          have S3 := same_new (o := .tup [.int (i : Nat), .ref (ad x)]) SM nT
          have hL := S3 _ _ (rows1.each x hx)
          rw [map_int] at hL
          refine ⟨T, _, rfl, SqT.of upd_same, rfl, _, _, rfl, _, _, rfl, rfl, rfl, _, rfl, ad x, _, rfl, SqL.of hL, by rw [List.length_map]; exact List.length_pos_of_mem hx, fun m hm' hle' => ?_⟩
          have em : m = rch pl ts x := mxG_is hm' hle'
          subst em
          refine ⟨_, rfl, rfl, _, rfl, ?_⟩
          rw [rng_filt, eg]
          refine ite2 (fun z => ?_) (fun z => ?_)
          · have z : rch pl ts x = most := V.int.inj (of_decide_eq_true z)
            rw [if_pos (decide_eq_true z)]
            refine ⟨_, rfl, _, by rw [upd_ne DT]; exact hD, ?_, same_put S3 nD, by rw [upd_same, nV_snoc]⟩
            rw [nV_len]
            have := List.length_filter_le (fun k => decide (rch pl ts (pl.getD k []) = most)) (List.range i)
            rw [List.length_range] at this
            exact sz_lt (by omega)
          · have z : ¬ rch pl ts x = most := fun k => z (decide_eq_true (congrArg V.int k))
            rw [if_neg (by simpa using z), List.append_nil]
            exact ⟨S3, by rw [upd_ne DT]; exact hD⟩
      · obtain ⟨SM, hD⟩ := hP
        rw [List.length_map, eb] at hD
        have rows2 := rows1.keep SM
        have S3 := S2.trans SM
        have K3 := (Kep.refl SD).same S3
        have nsl : ∀ z ∈ bi :: br, z < pl.length ∧ rch pl ts (pl.getD z []) = most := fun z hz => by
          rw [← eb] at hz
          obtain ⟨h1, h2⟩ := List.mem_filter.mp hz
          exact ⟨List.mem_range.mp h1, of_decide_eq_true h2⟩
        have nll : (bi :: br).length ≤ pl.length := by
          rw [← eb]
          have := List.length_filter_le (fun k => decide (rch pl ts (pl.getD k []) = most)) (List.range pl.length)
          rwa [List.length_range] at this
        have npos : 0 < (bi :: br).length := Nat.succ_pos _
        clear bl bp bn eb
        generalize bi :: br = ns at hD nsl nll npos
        refine ⟨_, rfl, _, rfl, _, rfl, D, _, rfl, .inl (SqL.of hD), d, k, _, rfl, K3.sd, by omega, by rw [nV_len]; omega, by rw [nV_len]; omega, fun H3 r3 a0 a1 S4 D4 => ?_⟩
        have hD3 := S4 _ _ Dd hD
        obtain ⟨v, hv, mv⟩ := atI_in a0 a1
        obtain ⟨bj, hbj, rfl⟩ : ∃ b, b ∈ ns ∧ v = .int (b : Nat) := by
          obtain ⟨b, hb, e⟩ := List.mem_map.mp mv
          exact ⟨b, hb, e.symm⟩
        refine ⟨D, _, r3, _, rfl, rfl, SqL.of hD3, hv, ?_⟩
        obtain ⟨bl, bp⟩ := nsl bj hbj
        have KA := K3.draw S4 D4
        have rowsA : RowsAt H3 L pl pl ts ad := ⟨S4 _ _ ld rows2.all, fun u hu => S4 _ _ (dd u hu) (rows2.each u hu), rows2.ne⟩
        clear hD nD SM rows1 rows2 hD3 hv mv hbj nsl nll npos
        have hu := memk bl
        have gu := getk bl
        generalize hue : pl.getD bj [] = u at hu gu bp
        obtain ⟨xw, hxw, exw⟩ := rin u hu
        obtain ⟨ei, er, ee, el', ep, en⟩ : ∃ b r, (List.range pl.length).filter (fun k => decide (dist ts u (pl.getD k []) = most)) = b :: r ∧ b < pl.length ∧ decide (dist ts u (pl.getD b []) = most) = true ∧ ∀ i, i < b → decide (dist ts u (pl.getD i []) = most) = false := by
          refine rng_first ?_
          obtain ⟨j, hj, ej⟩ := List.mem_iff_getElem.mp hxw
          refine ⟨j, hj, ?_⟩
          have : pl.getD j [] = xw := by simp [List.getD, hj, ej]
          rw [this, exw, bp]
          exact decide_eq_true rfl
        have ep : dist ts u (pl.getD ei []) = most := of_decide_eq_true ep
        have hx := memk el'
        have gx := getk el'
        generalize hxe : pl.getD ei [] = x at hx gx ep
        refine ⟨fun σ' H' => σ' = [some (.ref d), some (.ref t), some (.ref L), some (.int most), some (.ref D), some (.int (bj : Nat)), some (.int (ei : Nat)), none, none, none, none, none, none, none, none, none, none, none] ∧ H3 = H', ?_, fun σ' H' hM => ?_⟩
        · refine ⟨_, rfl, _, rfl, L, _, (bj : Int), .ref (ad u), rfl, rfl, SqL.of rowsA.all, atI_nat (by rw [List.getElem?_map, gu]; rfl), .inl ⟨rfl, _, SqL.of (rowsA.each u hu)⟩, _, rfl, ad u, _, .int most, ei, .int (dist ts u x), rfl, rfl, SqL.of (rowsA.each u hu), rfl, ?_, by rw [List.getElem?_map, gx]; rfl, by rw [ep]; exact beq_self_eq_true most, fun m z' hm' hz' => ?_, ?_⟩
          · rw [List.all_eq_true]
            intro v hv
            obtain ⟨n, _, rfl⟩ := List.mem_map.mp hv
            rfl
          · rw [List.getElem?_map] at hz'
            have ml : m < pl.length := by omega
            rw [getk ml] at hz'
            have ez : z' = .int (dist ts u (pl.getD m [])) := (Option.some.inj hz').symm
            subst ez
            have := of_decide_eq_false (en m hm')
            exact beq_eq_false_iff_ne.mpr this
          · exact ⟨rfl, rfl⟩
        obtain ⟨rfl, rfl⟩ := hM
        have top' : ∀ y ∈ pl, ∀ z ∈ pl, dist ts y z ≤ dist ts u x := by rw [ep]; exact top
        have plS : ∀ {k : Nat}, k < pl.length → atI ((pl.map S).map V.str) (k : Int) = some (.str (S (pl.getD k []))) := fun {k} h => atI_nat (by rw [List.getElem?_map, List.getElem?_map, getk h]; rfl)
        refine ⟨fun σ' H' => ∃ P : Addr, σ' = [some (.ref d), some (.ref t), some (.ref L), some (.int most), some (.ref D), some (.int (bj : Nat)), some (.int (ei : Nat)), some (.ref P), none, none, none, none, none, none, none, none, none, none] ∧ Ap d L P pl ad H ∧ Wr d L P pl ts ad H H' (k + 1) [(most, mpt pl ts u x, u, x)], ?_, fun σ' HP hM => ?_⟩
        · refine ⟨_, rfl, _, rfl, _, rfl, _, rfl, _, rfl, .ref t, pl, ts, L, ad, bj, ei, rfl, Dt.keep KA.tk hd, fine, rowsA, bl, el', fun H4 r4 S5 hr4 => ?_⟩
          rw [hue, hxe, mpt_D] at hr4
          have K4 := KA.same S5
          have ht4 := K4.tk.tup _ _ ht
          have ha4 := ha.tk K4.tk
          refine ⟨_, rfl, t, _, 0, .ref a, rfl, rfl, SqT.of ht4, atI_nat (j := 0) rfl, _, rfl, a, _, (bj : Int), _, rfl, rfl, ha4.sq, plS bl, ?_⟩
          refine ⟨_, rfl, t, _, 0, .ref a, rfl, rfl, SqT.of ht4, atI_nat (j := 0) rfl, _, rfl, a, _, (ei : Int), _, rfl, rfl, ha4.sq, plS el', ?_⟩
          rw [hue, hxe]
          refine ⟨(by show 2 ≤ sizeLine; decide), fun e1 ne1 => ⟨(by show 2 ≤ sizeLine; decide), fun e2 ne2 => ⟨(by show 2 ≤ sizeLine; decide), fun e3 ne3 => ⟨(by show 1 ≤ sizeLine; decide), fun P nP => ?_⟩⟩⟩⟩
          have K5 := K4.new (o := .tup [.str (S u), .str (S x)]) ne1
          have h5 : Dt _ (.ref e3) (numX (most, mpt pl ts u x, u, x)) := num_made (n := most) (x := (mpt pl ts u x, u, x)) (Dt.keep (TK.new (o := .tup [.str (S u), .str (S x)]) ne1) hr4) pair_made ne2 ne3
          have rows5 := rowsA.keep (S5.trans (same_new (o := .tup [.int most, .ref e2]) (same_new (o := .tup [r4, .ref e1]) (same_new (o := .tup [.str (S u), .str (S x)]) (Same.refl H4) ne1) ne2) ne3))
          have K7 := (K5.new (o := .tup [r4, .ref e1]) ne2).new (o := .tup [.int most, .ref e2]) ne3
          generalize upd (upd (upd H4 e1 (.tup [.str (S u), .str (S x)])) e2 (.tup [r4, .ref e1])) e3 (.tup [.int most, .ref e2]) = H7 at h5 rows5 K7 nP
          have A : Ap d L P pl ad H := ⟨ld, dd, K7.sd.nd nP, ne_of_none rows5.all nP, fun u hu => ne_of_none (rows5.each u hu) nP, K7.sm.free nP (K7.sd.nd nP)⟩
          exact ⟨P, rfl, A, K7.new nP, rows5.keep (same_new (Same.refl H7) nP), [.ref e3], upd_same, DtAll.keep (TK.new nP) (.cons h5 .nil)⟩
        obtain ⟨PP, rfl, AA, W0⟩ := hM
        -- five more
        refine ⟨fun σ' H' => ∃ (x8 x9 x10 x11 : Option V) (xs : List (Int × Pap)), σ' = [some (.ref d), some (.ref t), some (.ref L), some (.int most), some (.ref D), some (.int (bj : Nat)), some (.int (ei : Nat)), some (.ref PP), x8, x9, x10, x11, none, none, none, none, none, none] ∧ Wr d L PP pl ts ad H H' (k + 11) xs ∧ xs.length = 6 ∧ (∀ z ∈ xs, PapOk 2 z.2) ∧ xs[0]? = some (most, mpt pl ts u x, u, x), ?_, fun σ5 H5 hM => ?_⟩
        · refine ⟨5, rfl, by decide, by decide, for_range (lo := 0) (n := (5 : Int).toNat) (fun j σ' H' => ∃ (x8 x9 x10 x11 : Option V) (xs : List (Int × Pap)), σ' = [some (.ref d), some (.ref t), some (.ref L), some (.int most), some (.ref D), some (.int (bj : Nat)), some (.int (ei : Nat)), some (.ref PP), x8, x9, x10, x11, none, none, none, none, none, none] ∧ Wr d L PP pl ts ad H H' (k + 1 + 2 * j) xs ∧ xs.length = 1 + j ∧ (∀ z ∈ xs, PapOk 2 z.2) ∧ xs[0]? = some (most, mpt pl ts u x, u, x)) ⟨none, none, none, none, _, rfl, W0, rfl, fun z hz => ?_, rfl⟩ (fun j σ' H' hj hP => ?_) (fun σ' H' hP => ?_)⟩
          · rw [List.mem_singleton.mp hz]
            exact ⟨mpt_ok fine hu hx, fine.ok _ hu, fine.ok _ hx⟩
          · obtain ⟨x8, x9, x10, x11, xs, rfl, W1, xl, xok, x0⟩ := hP
            have hj : j < 5 := hj
            have ht1 := W1.kep.tk.tup _ _ ht
            have ha1 := ha.tk W1.kep.tk
            refine ⟨_, rfl, _, rfl, t, _, 0, .ref a, rfl, rfl, SqT.of ht1, atI_nat (j := 0) rfl, a, _, rfl, .inr ha1.sq, d, _, _, rfl, W1.kep.sd, by omega, by rw [sqn]; omega, by rw [sqn]; omega, fun H6 r6 b0 b1 S6 D6 => ?_⟩
            have W2 := W1.draw AA S6 D6
            have ht2 := W2.kep.tk.tup _ _ ht
            have ha2 := ha.tk W2.kep.tk
            refine ⟨_, rfl, _, rfl, t, _, 0, .ref a, rfl, rfl, SqT.of ht2, atI_nat (j := 0) rfl, a, _, rfl, .inr ha2.sq, d, _, _, rfl, W2.kep.sd, by omega, by rw [sqn]; omega, by rw [sqn]; omega, fun H7 r7 c0 c1 S7 D7 => ?_⟩
            have W3 := W2.draw AA S7 D7
            rw [sqn] at b1 c1
            obtain ⟨p, rfl⟩ : ∃ p : Nat, r6 = (p : Int) := ⟨r6.toNat, by omega⟩
            obtain ⟨r, rfl⟩ : ∃ r : Nat, r7 = (r : Int) := ⟨r7.toNat, by omega⟩
            have pL : p < pl.length := by omega
            have rL : r < pl.length := by omega
            refine ⟨(by show 2 ≤ sizeLine; decide), fun pr npr => ?_⟩
            have W4 := W3.new (o := .lst [.int (p : Int), .int (r : Int)]) npr
            have hpr : (upd H7 pr (.lst [.int (p : Int), .int (r : Int)])) pr = some (.lst [.int (p : Int), .int (r : Int)]) := upd_same
            generalize upd H7 pr (.lst [.int (p : Int), .int (r : Int)]) = H8 at W4 hpr
            have mp := memk pL
            have mr := memk rL
            have q0 : atI [V.int (p : Int), V.int (r : Int)] 0 = some (.int (p : Int)) := atI_nat (j := 0) rfl
            have q1 : atI [V.int (p : Int), V.int (r : Int)] 1 = some (.int (r : Int)) := atI_nat (j := 1) rfl
            refine ⟨_, rfl, _, rfl, pr, _, 0, _, rfl, rfl, SqL.of hpr, q0, L, _, (p : Int), .ref (ad (pl.getD p [])), rfl, rfl, SqL.of W4.rows.all, atI_nat (by rw [List.getElem?_map, getk pL]; rfl), ?_⟩
            refine ⟨_, rfl, pr, _, 1, _, rfl, rfl, SqL.of hpr, q1, ad (pl.getD p []), _, (r : Int), .int (dist ts (pl.getD p []) (pl.getD r [])), rfl, rfl, SqL.of (W4.rows.each _ mp), atI_nat (by rw [List.getElem?_map, getk rL]; rfl), ?_⟩
            refine ⟨_, rfl, _, rfl, _, rfl, pr, _, 0, _, rfl, rfl, SqL.of hpr, q0, _, rfl, pr, _, 1, _, rfl, rfl, SqL.of hpr, q1, .ref t, pl, ts, L, ad, p, r, rfl, Dt.keep W4.kep.tk hd, fine, W4.rows, pL, rL, fun H9 r9 S9 hr9 => ?_⟩
            rw [mpt_D] at hr9
            have W5 := W4.same S9
            have hpr5 := S9 _ _ hpr
            have ht5 := W5.kep.tk.tup _ _ ht
            have ha5 := ha.tk W5.kep.tk
            obtain ⟨ws5, hw5, _⟩ := W5.pp
            refine ⟨_, rfl, .inl ⟨rfl, _, SqL.of hw5⟩, _, rfl, _, rfl, ?_⟩
            refine ⟨_, rfl, t, _, 0, .ref a, rfl, rfl, SqT.of ht5, atI_nat (j := 0) rfl, _, rfl, pr, _, 0, _, rfl, rfl, SqL.of hpr5, q0, a, _, (p : Int), _, rfl, rfl, ha5.sq, plS pL, ?_⟩
            refine ⟨_, rfl, t, _, 0, .ref a, rfl, rfl, SqT.of ht5, atI_nat (j := 0) rfl, _, rfl, pr, _, 1, _, rfl, rfl, SqL.of hpr5, q1, a, _, (r : Int), _, rfl, rfl, ha5.sq, plS rL, ?_⟩
            have okp : PapOk 2 (mpt pl ts (pl.getD p []) (pl.getD r []), pl.getD p [], pl.getD r []) := ⟨mpt_ok fine mp mr, fine.ok _ mp, fine.ok _ mr⟩
            generalize mpt pl ts (pl.getD p []) (pl.getD r []) = pt at hr9 okp
            generalize dist ts (pl.getD p []) (pl.getD r []) = far
            generalize pl.getD p [] = yp at okp
            generalize pl.getD r [] = yr at okp
            refine ⟨(by show 2 ≤ sizeLine; decide), fun e1 ne1 => ⟨(by show 2 ≤ sizeLine; decide), fun e2 ne2 => ⟨(by show 2 ≤ sizeLine; decide), fun e3 ne3 => ?_⟩⟩⟩
            have W6 := W5.new (o := .tup [.str (S yp), .str (S yr)]) ne1
            have h6 : Dt _ (.ref e3) (numX (far, pt, yp, yr)) := num_made (n := far) (x := (pt, yp, yr)) (Dt.keep (TK.new (o := .tup [.str (S yp), .str (S yr)]) ne1) hr9) pair_made ne2 ne3
            have W7 := (W6.new (o := .tup [r9, .ref e1]) ne2).new (o := .tup [.int far, .ref e2]) ne3
            generalize upd (upd (upd H9 e1 (.tup [.str (S yp), .str (S yr)])) e2 (.tup [r9, .ref e1])) e3 (.tup [.int far, .ref e2]) = H10 at h6 W7
            obtain ⟨ws, hw, wl, W8⟩ := W7.app AA h6
            refine ⟨PP, ws, _, rfl, rfl, hw, sz_lt (by omega), _, _, _, _, _, rfl, W8.mono (by omega), by rw [List.length_append, xl]; rfl, fun z hz => ?_, ?_⟩
            · rcases List.mem_append.mp hz with h | h
              · exact xok z h
              · rw [List.mem_singleton.mp h]
                exact okp
            · rw [List.getElem?_append_left (by omega)]
              exact x0
          · obtain ⟨x8, x9, x10, x11, xs, rfl, W1, xl, xok, x0⟩ := hP
            exact ⟨_, _, _, _, xs, rfl, W1.mono (by show k + 1 + 2 * 5 ≤ k + 11; omega), xl, xok, x0⟩
        obtain ⟨x8, x9, x10, x11, xs5, rfl, W5, xl5, xok5, x05⟩ := hM
        have up : ∀ {B C : Int} {y : Pap}, B ≤ C → PapOk B y → PapOk C y := fun h o => ⟨⟨o.1.1, o.1.2.1, by have := o.1.2.2.1; omega, by have := o.1.2.2.2; omega⟩, o.2⟩
        -- and those that are bent
        refine ⟨fun σ' H' => ∃ (x8 x9 x10 x11 x12 x13 : Option V) (xs : List (Int × Pap)), σ' = [some (.ref d), some (.ref t), some (.ref L), some (.int most), some (.ref D), some (.int (bj : Nat)), some (.int (ei : Nat)), some (.ref PP), x8, x9, x10, x11, x12, x13, none, none, none, none] ∧ Wr d L PP pl ts ad H H' (k + 800) xs ∧ (∀ z ∈ xs, PapOk 3000008 z.2) ∧ xs[0]? = some (most, mpt pl ts u x, u, x), ?_, fun σ6 H6 hM => ?_⟩
        · refine ⟨14, rfl, by decide, by decide, for_range (lo := 0) (n := (14 : Int).toNat) (fun j σ' H' => ∃ (x8 x9 x10 x11 x12 x13 : Option V) (xs : List (Int × Pap)), σ' = [some (.ref d), some (.ref t), some (.ref L), some (.int most), some (.ref D), some (.int (bj : Nat)), some (.int (ei : Nat)), some (.ref PP), x8, x9, x10, x11, x12, x13, none, none, none, none] ∧ Wr d L PP pl ts ad H H' (k + 11 + 50 * j) xs ∧ 6 ≤ xs.length ∧ xs.length ≤ 6 + 2 * j ∧ (∀ z ∈ xs.take 6, PapOk 2 z.2) ∧ (∀ z ∈ xs, PapOk 3000008 z.2) ∧ xs[0]? = some (most, mpt pl ts u x, u, x)) ⟨_, _, _, _, _, _, xs5, rfl, W5, by omega, by omega, fun z hz => xok5 z (List.mem_of_mem_take hz), fun z hz => up (by decide) (xok5 z hz), x05⟩ (fun j σ' H' hj hP => ?_) (fun σ' H' hP => ?_)⟩
          · obtain ⟨x8, x9, x10, x11, x12, x13, xs, rfl, W1, xg, xl, xt, xok, x0⟩ := hP
            have hj : j < 14 := hj
            obtain ⟨ws, hw, hwd⟩ := id W1.pp
            have wl := DtAll.len hwd
            rw [List.length_map] at wl
            obtain ⟨i, ei', il⟩ : ∃ i : Nat, (if 0 + (j : Int) - 8 > 0 then 0 + (j : Int) - 8 else 0) % 6 = (i : Int) ∧ i < 6 := by
              refine ⟨((if 0 + (j : Int) - 8 > 0 then 0 + (j : Int) - 8 else 0) % 6).toNat, ?_, ?_⟩
              · split <;> omega
              · split <;> omega
            have hx1 : xs[i]? = some (xs[i]'(by omega)) := List.getElem?_eq_getElem (by omega)
            generalize xs[i]'(by omega) = z1 at hx1
            have hw1 : ws[i]? = some (ws[i]'(by omega)) := List.getElem?_eq_getElem (by omega)
            generalize ws[i]'(by omega) = v1 at hw1
            obtain ⟨dv, hdv, hv1⟩ := DtAll.get hwd hw1
            rw [List.getElem?_map, hx1] at hdv
            have edv : dv = numX z1 := (Option.some.inj hdv).symm
            subst edv
            obtain ⟨e1, y1, rfl, he1, hy1⟩ := dt_num hv1
            have ok1 : PapOk 2 z1.2 := xt z1 (List.mem_of_getElem? (by rw [List.getElem?_take, if_pos il]; exact hx1))
            refine ⟨_, rfl, _, rfl, _, _, rfl, rfl, _, _, rfl, _, _, rfl, rfl, (by decide : (0 : Int) < 6), PP, _, _, .ref e1, rfl, rfl, SqL.of hw, (by rw [ei']; exact atI_nat hw1), ?_⟩
            refine ⟨e1, _, rfl, SqT.of he1, rfl, _, _, rfl, _, _, rfl, rfl, ?_⟩
            refine ⟨_, rfl, .inl ⟨rfl, _, SqL.of hw⟩, _, rfl, _, rfl, _, rfl, _, rfl, d, .ref t, y1, z1.1, k + 11 + 50 * j, pl, ts, z1.2, 2, rfl, W1.kep.sd, by omega, Dt.keep W1.kep.tk hd, hz.keep W1.kep.tk, fine, hy1, ok1, by decide, fun H2 r2 n2 z2 K2 hr2 ok2 => ?_⟩
            have W2 := W1.on AA K2
            have hr2' : Dt H2 r2 (numX (n2, z2)) := hr2
            obtain ⟨ws2, hw2, wl2, W3⟩ := W2.app AA hr2'
            refine ⟨PP, ws2, _, rfl, rfl, hw2, sz_lt (by omega), ?_⟩
            have hP3 : (upd H2 PP (.lst (ws2 ++ [r2]))) PP = some (.lst (ws2 ++ [r2])) := upd_same
            have hr3 := Dt.keep (TK.mut (o := .lst (ws2 ++ [r2])) hw2) hr2'
            generalize upd H2 PP (.lst (ws2 ++ [r2])) = H3 at W3 hP3 hr3
            obtain ⟨e2, y2, rfl, he2, hy2⟩ := dt_num hr3
            dsimp only at he2 hy2
            refine ⟨_, rfl, _, rfl, PP, _, -1, .ref e2, rfl, rfl, SqL.of hP3, atI_last _ _, e2, _, rfl, SqT.of he2, rfl, _, _, rfl, _, _, rfl, rfl, ?_⟩
            refine ⟨_, rfl, d, _, 3, rfl, W3.kep.sd, by omega, by decide, by decide, fun H4 r4 b0 b1 S4 D4 => ⟨rfl, _, rfl, ?_⟩⟩
            have W4 := W3.draw AA S4 D4
            have tk34 : TK H3 H4 := ((Kep.refl W3.kep.sd).draw S4 D4).tk
            have hy4 := Dt.keep tk34 hy2
            have fact : ∀ z ∈ xs ++ [(n2, z2)], PapOk 3000008 z.2 := fun z hz => (List.mem_append.mp hz).elim (xok z) fun h => by
              rw [List.mem_singleton.mp h]
              exact up (by decide) ok2
            have tk6 : (xs ++ [(n2, z2)]).take 6 = xs.take 6 := List.take_append_of_le_length (by omega)
            have x0' : (xs ++ [(n2, z2)])[0]? = some (most, mpt pl ts u x, u, x) := by
              rw [List.getElem?_append_left (by omega)]
              exact x0
            have ln : (xs ++ [(n2, z2)]).length = xs.length + 1 := by rw [List.length_append]; rfl
            rw [← tk6] at xt
            generalize xs ++ [(n2, z2)] = xs' at W4 fact xt x0' ln
            refine ite2 (fun z => ?_) (fun z => ?_)
            · obtain ⟨ws4, hw4, _⟩ := W4.pp
              refine ⟨_, rfl, .inl ⟨rfl, _, SqL.of hw4⟩, _, rfl, _, rfl, _, rfl, _, rfl, d, .ref t, y2, n2, _, pl, ts, z2, 1000004, rfl, W4.kep.sd, by omega, Dt.keep W4.kep.tk hd, hz.keep W4.kep.tk, fine, hy4, ok2, by decide, fun H5 r5 n5 z5 K5 hr5 ok5 => ?_⟩
              have W5 := W4.on AA K5
              have hr5' : Dt H5 r5 (numX (n5, z5)) := hr5
              obtain ⟨ws5, hw5, wl5, W6⟩ := W5.app AA hr5'
              refine ⟨PP, ws5, _, rfl, rfl, hw5, sz_lt (by omega), _, _, _, _, _, _, xs' ++ [(n5, z5)], rfl, W6.mono (by omega), by rw [List.length_append]; omega, by rw [List.length_append, ln]; show xs.length + 1 + 1 ≤ 6 + 2 * (j + 1); omega, ?_, fun z hz => (List.mem_append.mp hz).elim (fact z) fun h => ?_, ?_⟩
              · rw [List.take_append_of_le_length (by omega)]
                exact xt
              · rw [List.mem_singleton.mp h]
                exact ok5
              · rw [List.getElem?_append_left (by omega)]
                exact x0'
            · exact ⟨_, _, _, _, _, _, xs', rfl, W4.mono (by omega), by omega, by omega, xt, fact, x0'⟩
          · obtain ⟨x8, x9, x10, x11, x12, x13, xs, rfl, W1, xg, xl, xt, xok, x0⟩ := hP
            exact ⟨_, _, _, _, _, _, xs, rfl, W1.mono (by show k + 11 + 50 * 14 ≤ k + 800; omega), xok, x0⟩
        obtain ⟨x8, x9, x10, x11, x12, x13, xs, rfl, W6, xok, x0⟩ := hM
        obtain ⟨ws, hw, hwd⟩ := id W6.pp
        have wl := DtAll.len hwd
        rw [List.length_map] at wl
        have bd : ∀ {y : Pap}, PapOk 3000008 y → -(2 ^ 64) < y.1.2.2.2 ∧ y.1.2.2.2 < 2 ^ 64 := fun o => ⟨by have := o.1.2.2.1; omega, by have := o.1.2.2.2; omega⟩
        -- looked at
        refine ⟨fun σ' H' => ∃ (x8 x9 x10 x11 x12 x13 x14 x15 : Option V), σ' = [some (.ref d), some (.ref t), some (.ref L), some (.int most), some (.ref D), some (.int (bj : Nat)), some (.int (ei : Nat)), some (.ref PP), x8, x9, x10, x11, x12, x13, x14, x15, none, none] ∧ Same H6 H', ?_, fun σ7 H7 hM => ?_⟩
        · refine ⟨_, rfl, PP, rfl, ⟨_, SqL.of hw⟩, for_list (K := K) (a := PP) (xs := ws) (fun i σ' H' => ∃ (x8 x9 x10 x11 x12 x13 x14 x15 : Option V), σ' = [some (.ref d), some (.ref t), some (.ref L), some (.int most), some (.ref D), some (.int (bj : Nat)), some (.int (ei : Nat)), some (.ref PP), x8, x9, x10, x11, x12, x13, x14, x15, none, none] ∧ Same H6 H') ⟨_, _, _, _, _, _, _, _, rfl, Same.refl _⟩ (fun i σ' H' _ hP => by obtain ⟨_, _, _, _, _, _, _, _, _, s⟩ := hP; exact SqL.of (s _ _ hw)) (fun i v σ' H' hi hP => ?_) (fun σ' H' hP => hP)⟩
          obtain ⟨x8, x9, x10, x11, x12, x13, x14, x15, rfl, SM⟩ := hP
          have W7 := W6.same SM
          obtain ⟨dv, hdv, hv1⟩ := DtAll.get (DtAll.keep (TK.of SM) hwd) hi
          rw [List.getElem?_map] at hdv
          cases ez : xs[i]? with
          | none => rw [ez] at hdv; cases hdv
          | some z =>
            rw [ez] at hdv
            have edv : dv = numX z := (Option.some.inj hdv).symm
            subst edv
            have okz := xok z (List.mem_of_getElem? ez)
            obtain ⟨e1, y1, rfl, he1, hy1⟩ := dt_num hv1
            refine ⟨e1, _, rfl, SqT.of he1, rfl, _, _, rfl, _, _, rfl, rfl, ?_⟩
            refine ⟨_, rfl, _, rfl, _, rfl, _, rfl, .ref t, y1, z.1, pl, ts, z.2, L, ad, rfl, Dt.keep W7.kep.tk hd, hz.keep W7.kep.tk, fine, W7.rows, hy1, okz.1.1, okz.1.2.1, bd okz, fun H8 S8 => ?_⟩
            refine ⟨2, rfl, by decide, by decide, for_range (lo := 0) (n := (2 : Int).toNat) (fun j σ' H'' => ∃ (x8 x15 : Option V), σ' = [some (.ref d), some (.ref t), some (.ref L), some (.int most), some (.ref D), some (.int (bj : Nat)), some (.int (ei : Nat)), some (.ref PP), x8, x9, x10, x11, some (.int z.1), some y1, some (.bl (shown pl ts z.1 z.2)), x15, none, none] ∧ Same H8 H'') ⟨x8, x15, rfl, Same.refl _⟩ (fun j σ' H'' hj hP => ?_) (fun σ' H'' hP => ?_)⟩
            · obtain ⟨x8, x15, rfl, S9⟩ := hP
              have s89 := S8.trans S9
              have W9 := W7.same s89
              refine ⟨_, rfl, _, rfl, _, rfl, .ref t, y1, z.1, pl, ts, z.2, rfl, Dt.keep W9.kep.tk hd, hz.keep W9.kep.tk, fine, Dt.keep (TK.of s89) hy1, okz.1.1, okz.1.2.1, bd okz, fun H10 S10 => ?_⟩
              refine ⟨_, rfl, _, _, _, _, true, rfl, .ty _, .base (.bl _), kit_cls K (by decide +kernel), _, rfl, iteF ?_⟩
              refine ⟨_, rfl, _, rfl, rfl, _, rfl, iteF' ?_ ⟨_, _, rfl, S9.trans S10⟩⟩
              rw [decide_eq_true rfl]
              rfl
            · obtain ⟨x8, x15, rfl, S9⟩ := hP
              exact ⟨_, _, _, _, _, _, _, _, rfl, SM.trans (S8.trans S9)⟩
        obtain ⟨x8, x9, x10, x11, x12, x13, x14, x15, rfl, SM⟩ := hM
        have W7 := W6.same SM
        have hw7 := SM _ _ hw
        have okz := xok _ (List.mem_of_getElem? x0)
        have hw0 : ∃ v0, ws[0]? = some v0 := ⟨ws[0]'(by have := (List.getElem?_eq_some_iff.mp x0).1; omega), List.getElem?_eq_getElem _⟩
        obtain ⟨v0, hw0⟩ := hw0
        obtain ⟨dv, hdv, hv1⟩ := DtAll.get (DtAll.keep (TK.of SM) hwd) hw0
        rw [List.getElem?_map, x0] at hdv
        have edv : dv = numX (most, mpt pl ts u x, u, x) := (Option.some.inj hdv).symm
        subst edv
        obtain ⟨e1, y1, rfl, he1, hy1⟩ := dt_num hv1
        dsimp only at he1 hy1 okz
        have a0 : atI ws 0 = some (.ref e1) := atI_nat (j := 0) hw0
        refine ⟨_, rfl, _, rfl, _, rfl, PP, _, 0, .ref e1, rfl, rfl, SqL.of hw7, a0, e1, _, 0, _, rfl, rfl, SqT.of he1, atI_nat (j := 0) rfl, ?_⟩
        refine ⟨_, rfl, PP, _, 0, .ref e1, rfl, rfl, SqL.of hw7, a0, e1, _, 1, _, rfl, rfl, SqT.of he1, atI_nat (j := 1) rfl, ?_⟩
        refine ⟨.ref t, y1, most, pl, ts, (mpt pl ts u x, u, x), L, ad, rfl, Dt.keep W7.kep.tk hd, hz.keep W7.kep.tk, fine, W7.rows, hy1, okz.1.1, okz.1.2.1, bd okz, fun H8 S8 => ?_⟩
        have W8 := W7.same S8
        rw [← ep, mid_shown fine hu hx top']
        exact q H8 W8.kep.sm (W8.kep.sd.mono (by omega))
end
end Far

namespace Far
open PySem PySem.Spec PyProof.Rows L2
open C8 (pss_cut tCut)
open SX (S)
def spLaw (K : PySem.W.Frag) : Sp := fun vs H Q _ => ∃ (a : Addr) (ns : List Int), vs = [.ref a] ∧ SqL K H a (ns.map V.int) ∧ ns.length ≤ 63 ∧ ∀ H', Q (.bl true) H'
theorem SqL.same {K : PySem.W.Frag} {H H' : Hp} {a : Addr} {xs : List V} (h : SqL K H a xs) (s : Same H H') : SqL K H' a xs := by
  rcases h with (h | ⟨o, h⟩) | h
  · exact .inl (.inl (s _ _ h))
  · exact .inl (.inr ⟨o, s _ _ h⟩)
  · exact .inr h
theorem fine_one : Fine [[97]] [] := ⟨⟨[[97]], [], .one _, .refl _, .refl _⟩, fun l hl => by rw [List.mem_singleton.mp hl]; exact ⟨by decide, by decide, by decide⟩, by decide⟩
theorem fine_ba {k : Int} (h1 : 1 ≤ k) (h2 : k ≤ 1000000) : Fine [[98], [97]] [([97], [98], k)] := by
  refine ⟨⟨[[97], [98]], [([97], [98], k)], ?_, .swap _ _ _, .refl _⟩, fun l hl => ?_, by decide⟩
  · exact Grown.leaf (os := [[97]]) (es := []) (a := [97]) (b := [98]) (k := k) (.one _) (by decide) (by decide) (.inl rfl) h1 h2
  · rcases List.mem_cons.mp hl with z | z
    · rw [z]
      exact ⟨by decide, by decide, by decide⟩
    · rw [List.mem_singleton.mp z]
      exact ⟨by decide, by decide, by decide⟩
theorem fine_ab {k : Int} (h1 : 1 ≤ k) (h2 : k ≤ 1000000) : Fine [[97], [98]] [([98], [97], k)] := by
  refine ⟨⟨[[97], [98]], [([98], [97], k)], ?_, .refl _, .refl _⟩, fun l hl => ?_, by decide⟩
  · exact Grown.leaf (os := [[97]]) (es := []) (a := [97]) (b := [98]) (k := k) (.one _) (by decide) (by decide) (.inr rfl) h1 h2
  · rcases List.mem_cons.mp hl with z | z
    · rw [z]
      exact ⟨by decide, by decide, by decide⟩
    · rw [List.mem_singleton.mp z]
      exact ⟨by decide, by decide, by decide⟩
theorem d_one : dist [] [97] [97] = 0 := (fine_one.tree.dist_self _).1
theorem d_ba {k : Int} (h1 : 1 ≤ k) (h2 : k ≤ 1000000) : dist [([97], [98], k)] [98] [97] = k ∧ dist [([97], [98], k)] [97] [98] = k ∧ dist [([97], [98], k)] [97] [97] = 0 ∧ dist [([97], [98], k)] [98] [98] = 0 := by
  have F := (fine_ba h1 h2).tree
  have w1 : Way [([97], [98], k)] ([98] : Nm) [97] ([[98]] ++ [[97]]) (0 + k) := .snoc .nil (.inr (by simp)) (by decide)
  have w2 : Way [([97], [98], k)] ([97] : Nm) [98] ([[97]] ++ [[98]]) (0 + k) := .snoc .nil (.inl (by simp)) (by decide)
  exact ⟨by rw [(F.is_way w1).2]; omega, by rw [(F.is_way w2).2]; omega, (F.dist_self _).1, (F.dist_self _).1⟩
theorem d_ab {k : Int} (h1 : 1 ≤ k) (h2 : k ≤ 1000000) : dist [([98], [97], k)] [98] [97] = k ∧ dist [([98], [97], k)] [97] [98] = k := by
  have F := (fine_ab h1 h2).tree
  have w1 : Way [([98], [97], k)] ([98] : Nm) [97] ([[98]] ++ [[97]]) (0 + k) := .snoc .nil (.inl (by simp)) (by decide)
  have w2 : Way [([98], [97], k)] ([97] : Nm) [98] ([[97]] ++ [[98]]) (0 + k) := .snoc .nil (.inr (by simp)) (by decide)
  exact ⟨by rw [(F.is_way w1).2]; omega, by rw [(F.is_way w2).2]; omega⟩
end Far

namespace Far
open PySem PySem.Spec PyProof.Rows L2
open C8 (pss_cut tCut)
open SX (S)
theorem one_shown : shown [[97]] [] 0 (([97], [97], 0, 1), [97], [97]) = true := by
  have e : ∀ y : Nm, dbl [] ([97], [97], 0, 1) y = 2 * dist [] [97] y := fun y => dbl_place fine_one.tree _ _
  unfold shown
  have h1 : isPt [[97]] [] ([97], [97], 0, 1) = true := by decide
  rw [h1, Bool.true_and, decide_eq_true_eq]
  dsimp only
  refine ⟨by decide, by decide, d_one, ?_, ?_, fun y hy => ?_⟩
  · rw [e, d_one]
    rfl
  · rw [e, d_one]
    rfl
  · rw [List.mem_singleton.mp hy, e, d_one]
    decide
abbrev s_law : Stmt := topS 30
abbrev N_law : List Str := ["script", "cell", "seed", "turn"]
theorem sc_law : FnScope N_law ["script"] (defScope s_law) := ⟨rfl, rfl, rfl, by decide +kernel, rfl, by decide +kernel, by decide +kernel⟩
section
variable {P : Program} {w : World} {K : PySem.W.Frag} {mg : Str → Option Value} {base : Heap}
theorem ok_law {f : Addr} {fd : FuncData} (F : Fun K "law" "law" s_law f fd) (T : TxtM mg) (C_law_folded : Cal P w K mg base 1 "_law_folded" (spFolded K)) (C_law_seed : Cal P w K mg base 1 "_law_seed" spSeed) (C_law_draw : Cal P w K mg base 1 "_law_draw" spDraw) (C_law_tree : Cal P w K mg base 3 "_law_tree" spTree)
    (C_law_right : Cal P w K mg base 6 "_law_right" spRight) (Cpaper_shown : Cal P w K mg base 5 "paper_shown" spShown) : FnOk P w K mg base CX0 7 f fd ["script"] (spLaw K) := by
  refine F.ok sc_law (fun vs H Q E h => ?_) (fun cdv A outer s H vs Q E hr h => ?_)
  · obtain ⟨a, ns, rfl, _⟩ := h
    rfl
  · obtain ⟨a, ns, rfl, hS, hl, q⟩ := h
    refine ⟨_, (pss_cut (ps_for PassesOwn.never rfl (pi_list (pe_op op_cat (pe_slice sl_list (pv 0) po_none (po_some pe_int)) (pe_lst (pa_cons (pe_c C_law_folded hr (by decide) rfl (pa_cons (pv 0) pa_nil)) pa_nil)))) (pg_name (i := 1) sc_law.nd rfl (.inl rfl))
        (pss_cons (ps_set (i := 2) sc_law.nd rfl (.inl rfl) (pe_c C_law_seed hr (by decide) rfl (pa_cons (pv 1) pa_nil)))
        (pss_one (ps_for PassesOwn.never rfl (pi_range1 (by rfl) T.range (pa_cons pe_int pa_nil)) (pg_name (i := 3) sc_law.nd rfl (.inl rfl))
          (pss_one (ps_if (pt_not (pt_val (pe_c C_law_right hr (by decide) rfl (pa_cons (pv 2) (pa_cons (pe_c C_law_tree hr (by decide) rfl (pa_cons (pv 2) (pa_cons (pe_ix ix_list (pe_lst (pa_cons (pe_ix ix_list (pe_lst (pa_cons pe_int (pa_cons pe_int pa_nil))) (pe_c C_law_draw hr (by decide) rfl (pa_cons (pv 2) (pa_cons pe_int pa_nil))) (fun _ _ => rfl)) (pa_cons pe_int pa_nil))) (pv 3) (fun _ _ => rfl)) pa_nil))) pa_nil)))))
            (pss_one (ps_ret pe_bl))
            pss_nil))))))
      (pss_one (ps_ret (pe_cmpR op_is_bl (pe_c Cpaper_shown hr (by decide) rfl (pa_cons (pe_tup (pa_cons (pe_tupD (pa_cons pe_str pa_nil)) (pa_cons (pe_tup pa_nil) pa_nil))) (pa_cons pe_int (pa_cons (pe_tup (pa_cons (pe_tup (pa_cons pe_str (pa_cons pe_str (pa_cons (pe_tup (pa_cons pe_int (pa_cons pe_int pa_nil))) pa_nil)))) (pa_cons (pe_tup (pa_cons pe_str (pa_cons pe_str pa_nil))) pa_nil))) pa_nil)))) pe_bl (nomark _))))), ?_⟩
    refine ⟨fun σ' H' => True, ?_, fun σ' H' _ => ?_⟩
    · refine ⟨_, rfl, 2, rfl, a, _, rfl, hS, fun p1 np1 => ?_⟩
      refine ⟨_, rfl, a, ns, rfl, SqL.same hS (same_new (Same.refl H) np1), hl, fun r r0 => ?_⟩
      refine ⟨(by show 1 ≤ sizeLine; decide), fun p2 np2 => ?_⟩
      have n12 : p1 ≠ p2 := ne_of_none upd_same np2
      have cl := cutV_length (ns.map V.int) none (some 2)
      rw [List.length_map] at cl
      refine ⟨p1, p2, _, _, rfl, rfl, by rw [upd_ne n12]; exact upd_same, upd_same, by rw [List.length_singleton]; exact sz_le (by omega), fun p3 np3 => ?_⟩
      have hcs : ∀ v ∈ cutV (ns.map V.int) none (some 2) ++ [V.int r], ∃ c : Int, v = .int c := fun v hv => by
        rcases List.mem_append.mp hv with z | z
        · obtain ⟨c, _, e⟩ := List.mem_map.mp (List.mem_of_mem_drop (List.mem_of_mem_take z))
          exact ⟨c, e.symm⟩
        · exact ⟨r, List.mem_singleton.mp z⟩
      have h3 : (upd (upd (upd H p1 (.lst (cutV (ns.map V.int) none (some 2)))) p2 (.lst [.int r])) p3 (.lst (cutV (ns.map V.int) none (some 2) ++ [.int r]))) p3 = some (.lst (cutV (ns.map V.int) none (some 2) ++ [.int r])) := upd_same
      generalize upd (upd (upd H p1 (.lst (cutV (ns.map V.int) none (some 2)))) p2 (.lst [.int r])) p3 (.lst (cutV (ns.map V.int) none (some 2) ++ [.int r])) = H3 at h3
      generalize cutV (ns.map V.int) none (some 2) ++ [V.int r] = cs at hcs h3
      refine ⟨p3, rfl, ⟨_, SqL.of h3⟩, for_list (K := K) (a := p3) (xs := cs) (fun i σ' H' => (∃ x1 x2 x3, σ' = [some (.ref a), x1, x2, x3]) ∧ Same H3 H') ⟨⟨_, _, _, rfl⟩, Same.refl _⟩ (fun i σ' H' _ hP => SqL.of (hP.2 _ _ h3)) (fun i v σ' H' hi hP => ?_) (fun σ' H' hP => trivial)⟩
      obtain ⟨⟨x1, x2, x3, rfl⟩, SM⟩ := hP
      obtain ⟨c, rfl⟩ := hcs v (List.mem_of_getElem? hi)
      refine ⟨_, rfl, c, rfl, fun H5 d S5 d0 D5 => ?_⟩
      refine ⟨2, rfl, by decide, by decide, for_range (lo := 0) (n := (2 : Int).toNat) (fun j σ' H'' => (∃ x3, σ' = [some (.ref a), some (.int c), some (.ref d), x3]) ∧ SmX d H5 H'' ∧ SeedAt H'' d (2001 * j)) ⟨⟨_, rfl⟩, SmX.refl _, D5⟩ (fun j σ' H'' hj hP => ?_) (fun σ' H'' hP => ?_)⟩
      · obtain ⟨⟨x3, rfl⟩, S6, D6⟩ := hP
        have hj : j < 2 := hj
        refine ⟨_, rfl, _, rfl, (by show 2 ≤ sizeLine; decide), fun p np => ?_⟩
        have D7 := D6.new (o := .lst [.int 30, .int 12]) np
        have S7 := S6.new (o := .lst [.int 30, .int 12]) np
        have pd : p ≠ d := D6.nd np
        refine ⟨_, rfl, d, _, 2, rfl, D7, by omega, by decide, by decide, fun H8 r8 b0 b1 S8 D8 => ?_⟩
        have hp : H8 p = some (.lst [.int 30, .int 12]) := S8 _ _ pd upd_same
        have S9 := S7.trans S8
        obtain ⟨v, hv, mv⟩ := atI_in (xs := [V.int 30, .int 12]) b0 (by simpa using b1)
        obtain ⟨m1, rfl, m11, m12⟩ : ∃ m : Nat, v = .int m ∧ 1 ≤ m ∧ m ≤ 30 := by
          simp only [List.mem_cons, List.not_mem_nil, or_false] at mv
          rcases mv with e | e
          · exact ⟨30, e, by omega, by omega⟩
          · exact ⟨12, e, by omega, by omega⟩
        refine ⟨p, _, r8, _, rfl, rfl, SqL.of hp, hv, (by show 2 ≤ sizeLine; decide), fun p' np' => ?_⟩
        obtain ⟨v, hv, mv⟩ := atI_in (xs := [V.int (m1 : Int), .int 5]) (i := 0 + (j : Int)) (by omega) (by simpa using (by omega : (0 : Int) + (j : Int) < 2))
        obtain ⟨most, rfl, k1, k2⟩ : ∃ m : Nat, v = .int m ∧ 1 ≤ m ∧ m ≤ 30 := by
          simp only [List.mem_cons, List.not_mem_nil, or_false] at mv
          rcases mv with e | e
          · exact ⟨m1, e, m11, m12⟩
          · exact ⟨5, e, by omega, by omega⟩
        refine ⟨_, rfl, p', _, 0 + (j : Int), _, rfl, rfl, SqL.of upd_same, hv, ?_⟩
        refine ⟨d, _, most, rfl, D8.new np', by omega, k1, k2, fun H10 t pl ts it ok pll hDt hz S10 D10 => ?_⟩
        have fine : Fine pl ts := ⟨it, ok, by omega⟩
        refine ⟨d, _, .ref t, pl, ts, rfl, D10, by omega, hDt, hz, fine, fun H11 S11 D11 => ⟨_, rfl, iteF ⟨⟨_, rfl⟩, ?_, ?_⟩⟩⟩
        · exact ((S9.new np').trans S10).trans S11
        · exact D11.mono (by omega)
      · obtain ⟨⟨x3, rfl⟩, S6, D6⟩ := hP
        refine ⟨⟨_, _, _, rfl⟩, fun b o h => S6 b o (fun e => ?_) (S5 _ _ (SM _ _ h))⟩
        rw [e] at h
        rw [SM _ _ h] at d0
        cases d0
    · refine ⟨(by show 1 ≤ sizeLine; decide), fun p1 o1 np1 od1 => ⟨Nat.zero_le _, fun p2 np2 => ⟨(by show 2 ≤ sizeLine; decide), fun p3 np3 => ?_⟩⟩⟩
      have tk2 := (TK.new (o := .tup []) np2).trans (TK.new (o := .tup [.ref p1, .ref p2]) np3)
      have hz := tk2.frz _ _ _ (upd_same (H := H') (a := p1) (o := .frz o1 (.tup [.str (Str.ofString "a")])))
      have hD : Dt (upd (upd (upd H' p1 (.frz o1 (.tup [.str (Str.ofString "a")]))) p2 (.tup [])) p3 (.tup [.ref p1, .ref p2])) (.ref p3) (treeD [[97]] []) := .tup upd_same (.cons (.tupZ (pl := [[97]]) rfl (by decide) od1 hz) (.cons (.tup ((TK.new np3).tup _ _ upd_same) .nil) .nil))
      have hZ : PlZ (upd (upd (upd H' p1 (.frz o1 (.tup [.str (Str.ofString "a")]))) p2 (.tup [])) p3 (.tup [.ref p1, .ref p2])) (.ref p3) [[97]] := ⟨p3, p1, p2, o1, rfl, upd_same, od1, hz⟩
      generalize upd (upd (upd H' p1 (.frz o1 (.tup [.str (Str.ofString "a")]))) p2 (.tup [])) p3 (.tup [.ref p1, .ref p2]) = H4 at hD hZ
      refine ⟨(by show 2 ≤ sizeLine; decide), fun q1 nq1 => ⟨(by show 3 ≤ sizeLine; decide), fun q2 nq2 => ⟨(by show 2 ≤ sizeLine; decide), fun q3 nq3 => ⟨(by show 2 ≤ sizeLine; decide), fun q4 nq4 => ?_⟩⟩⟩⟩
      have t4 := TK.new (o := .tup [.ref q2, .ref q3]) nq4
      have t3 := (TK.new (o := .tup [.str (Str.ofString "a"), .str (Str.ofString "a")]) nq3).trans t4
      have t2 := (TK.new (o := .tup [.str (Str.ofString "a"), .str (Str.ofString "a"), .ref q1]) nq2).trans t3
      have t1 := (TK.new (o := .tup [.int 0, .int 1]) nq1).trans t2
      have na : NameOk [97] := fine_one.ok _ (by simp)
      refine ⟨.ref p3, .ref q4, 0, [[97]], [], (([97], [97], 0, 1), [97], [97]), rfl, Dt.keep t1 hD, hZ.keep t1, fine_one, .tup upd_same (.cons (.tup (t3.tup _ _ upd_same) (.cons (.str _) (.cons (.str _) (.cons (.tup (t2.tup _ _ upd_same) (.cons (.int _) (.cons (.int _) .nil))) .nil)))) (.cons (.tup (t4.tup _ _ upd_same) (.cons (.str _) (.cons (.str _) .nil))) .nil)), na, na, by decide, fun H5 S5 => ?_⟩
      rw [one_shown]
      exact ⟨true, true, rfl, rfl, q _⟩
end
end Far

namespace Far
open PySem PySem.Spec PyProof.Rows L2
theorem all_mk {l : PySem.W.OpenLaw} {w : World} {K : PySem.W.Frag} {h : Heap} {mg : Str → Option Value} {fa f1 f2 f3 f4 f5 f6 f7 f8 f9 f10 f11 f12 f13 f14 f15 f16 f17 f18 f19 f20 f21 f22 f23 f24 : Addr} (X : K.In h) (G : h.Ns mainGlobals mg) (hfa : mg "law" = some (.ref fa))
    {od1 od2 od3 od4 od5 od6 od7 od8 od9 od10 od11 od12 od13 od14 od15 od16 od17 od18 od19 od20 od21 od22 od23 od24 an1 an2 an3 an4 an5 an6 an7 an8 an9 an10 an11 an12 an13 an14 an15 an16 an17 an18 an19 an20 an21 an22 an23 an24 : Option Addr} {sl1 sl2 sl3 sl4 sl5 sl6 sl7 sl8 sl9 sl10 sl11 sl12 sl13 sl14 sl15 sl16 sl17 sl18 sl19 sl20 sl21 sl22 sl23 sl24 : Array (Option Value)} {oc1 oc2 oc3 oc4 oc5 oc6 oc7 oc8 oc9 oc10 oc11 oc12 oc13 oc14 oc15 oc16 oc17 oc18 oc19 oc20 oc21 oc22 oc23 oc24 kV1 kV2 kV3 kV4 kV5 kV6 kV7 kV8 kV9 kV10 kV11 kV12 kV13 kV14 kV15 kV16 kV17 kV18 kV19 kV20 kV21 kV22 kV23 kV24 dc1 dc2 dc3 dc4 dc5 dc6 dc7 dc8 dc9 dc10 dc11 dc12 dc13 dc14 dc15 dc16 dc17 dc18 dc19 dc20 dc21 dc22 dc23 dc24 pm1 pm2 pm3 pm4 pm5 pm6 pm7 pm8 pm9 pm10 pm11 pm12 pm13 pm14 pm15 pm16 pm17 pm18 pm19 pm20 pm21 pm22 pm23 pm24 cd1 cd2 cd3 cd4 cd5 cd6 cd7 cd8 cd9 cd10 cd11 cd12 cd13 cd14 cd15 cd16 cd17 cd18 cd19 cd20 cd21 cd22 cd23 cd24 ct1 ct2 ct3 ct4 ct5 ct6 ct7 ct8 ct9 ct10 ct11 ct12 ct13 ct14 ct15 ct16 ct17 ct18 ct19 ct20 ct21 ct22 ct23 ct24 : Value}
    (a1 : PySem.W.nsIn K mainGlobals "_law_folded" = some (some (.ref f1))) (l1 : K.lookup f1 = some ⟨oc1, od1, .func (PySem.W.fnOf "_law_folded" "_law_folded" (defArgs s_law_folded) (defBody s_law_folded) (defScope s_law_folded) .none kV1 dc1 pm1 an1 cd1 ct1), sl1⟩) (c1 : PySem.W.codeIn K cd1 "_law_folded" = true) (k1 : PySem.W.keepIn K (.ref f1) = true)
    (a2 : PySem.W.nsIn K mainGlobals "_law_seed" = some (some (.ref f2))) (l2 : K.lookup f2 = some ⟨oc2, od2, .func (PySem.W.fnOf "_law_seed" "_law_seed" (defArgs s_law_seed) (defBody s_law_seed) (defScope s_law_seed) .none kV2 dc2 pm2 an2 cd2 ct2), sl2⟩) (c2 : PySem.W.codeIn K cd2 "_law_seed" = true) (k2 : PySem.W.keepIn K (.ref f2) = true)
    (a3 : PySem.W.nsIn K mainGlobals "_law_draw" = some (some (.ref f3))) (l3 : K.lookup f3 = some ⟨oc3, od3, .func (PySem.W.fnOf "_law_draw" "_law_draw" (defArgs s_law_draw) (defBody s_law_draw) (defScope s_law_draw) .none kV3 dc3 pm3 an3 cd3 ct3), sl3⟩) (c3 : PySem.W.codeIn K cd3 "_law_draw" = true) (k3 : PySem.W.keepIn K (.ref f3) = true)
    (a4 : PySem.W.nsIn K mainGlobals "_law_name" = some (some (.ref f4))) (l4 : K.lookup f4 = some ⟨oc4, od4, .func (PySem.W.fnOf "_law_name" "_law_name" (defArgs s_law_name) (defBody s_law_name) (defScope s_law_name) .none kV4 dc4 pm4 an4 cd4 ct4), sl4⟩) (c4 : PySem.W.codeIn K cd4 "_law_name" = true) (k4 : PySem.W.keepIn K (.ref f4) = true)
    (a5 : PySem.W.nsIn K mainGlobals "_law_length" = some (some (.ref f5))) (l5 : K.lookup f5 = some ⟨oc5, od5, .func (PySem.W.fnOf "_law_length" "_law_length" (defArgs s_law_length) (defBody s_law_length) (defScope s_law_length) .none kV5 dc5 pm5 an5 cd5 ct5), sl5⟩) (c5 : PySem.W.codeIn K cd5 "_law_length" = true) (k5 : PySem.W.keepIn K (.ref f5) = true)
    (a6 : PySem.W.nsIn K mainGlobals "_law_tree" = some (some (.ref f6))) (l6 : K.lookup f6 = some ⟨oc6, od6, .func (PySem.W.fnOf "_law_tree" "_law_tree" (defArgs s_law_tree) (defBody s_law_tree) (defScope s_law_tree) .none kV6 dc6 pm6 an6 cd6 ct6), sl6⟩) (c6 : PySem.W.codeIn K cd6 "_law_tree" = true) (k6 : PySem.W.keepIn K (.ref f6) = true)
    (a7 : PySem.W.nsIn K mainGlobals "_law_lengths" = some (some (.ref f7))) (l7 : K.lookup f7 = some ⟨oc7, od7, .func (PySem.W.fnOf "_law_lengths" "_law_lengths" (defArgs s_law_lengths) (defBody s_law_lengths) (defScope s_law_lengths) .none kV7 dc7 pm7 an7 cd7 ct7), sl7⟩) (c7 : PySem.W.codeIn K cd7 "_law_lengths" = true) (k7 : PySem.W.keepIn K (.ref f7) = true)
    (a8 : PySem.W.nsIn K mainGlobals "_law_half" = some (some (.ref f8))) (l8 : K.lookup f8 = some ⟨oc8, od8, .func (PySem.W.fnOf "_law_half" "_law_half" (defArgs s_law_half) (defBody s_law_half) (defScope s_law_half) .none kV8 dc8 pm8 an8 cd8 ct8), sl8⟩) (c8 : PySem.W.codeIn K cd8 "_law_half" = true) (k8 : PySem.W.keepIn K (.ref f8) = true)
    (a9 : PySem.W.nsIn K mainGlobals "_law_amid" = some (some (.ref f9))) (l9 : K.lookup f9 = some ⟨oc9, od9, .func (PySem.W.fnOf "_law_amid" "_law_amid" (defArgs s_law_amid) (defBody s_law_amid) (defScope s_law_amid) .none kV9 dc9 pm9 an9 cd9 ct9), sl9⟩) (c9 : PySem.W.codeIn K cd9 "_law_amid" = true) (k9 : PySem.W.keepIn K (.ref f9) = true)
    (a10 : PySem.W.nsIn K mainGlobals "_law_divides" = some (some (.ref f10))) (l10 : K.lookup f10 = some ⟨oc10, od10, .func (PySem.W.fnOf "_law_divides" "_law_divides" (defArgs s_law_divides) (defBody s_law_divides) (defScope s_law_divides) .none kV10 dc10 pm10 an10 cd10 ct10), sl10⟩) (c10 : PySem.W.codeIn K cd10 "_law_divides" = true) (k10 : PySem.W.keepIn K (.ref f10) = true)
    (a11 : PySem.W.nsIn K mainGlobals "_law_from_point" = some (some (.ref f11))) (l11 : K.lookup f11 = some ⟨oc11, od11, .func (PySem.W.fnOf "_law_from_point" "_law_from_point" (defArgs s_law_from_point) (defBody s_law_from_point) (defScope s_law_from_point) .none kV11 dc11 pm11 an11 cd11 ct11), sl11⟩) (c11 : PySem.W.codeIn K cd11 "_law_from_point" = true) (k11 : PySem.W.keepIn K (.ref f11) = true)
    (a12 : PySem.W.nsIn K mainGlobals "_law_due" = some (some (.ref f12))) (l12 : K.lookup f12 = some ⟨oc12, od12, .func (PySem.W.fnOf "_law_due" "_law_due" (defArgs s_law_due) (defBody s_law_due) (defScope s_law_due) .none kV12 dc12 pm12 an12 cd12 ct12), sl12⟩) (c12 : PySem.W.codeIn K cd12 "_law_due" = true) (k12 : PySem.W.keepIn K (.ref f12) = true)
    (a13 : PySem.W.nsIn K mainGlobals "_law_bent_point" = some (some (.ref f13))) (l13 : K.lookup f13 = some ⟨oc13, od13, .func (PySem.W.fnOf "_law_bent_point" "_law_bent_point" (defArgs s_law_bent_point) (defBody s_law_bent_point) (defScope s_law_bent_point) .none kV13 dc13 pm13 an13 cd13 ct13), sl13⟩) (c13 : PySem.W.codeIn K cd13 "_law_bent_point" = true) (k13 : PySem.W.keepIn K (.ref f13) = true)
    (a14 : PySem.W.nsIn K mainGlobals "_law_bent" = some (some (.ref f14))) (l14 : K.lookup f14 = some ⟨oc14, od14, .func (PySem.W.fnOf "_law_bent" "_law_bent" (defArgs s_law_bent) (defBody s_law_bent) (defScope s_law_bent) .none kV14 dc14 pm14 an14 cd14 ct14), sl14⟩) (c14 : PySem.W.codeIn K cd14 "_law_bent" = true) (k14 : PySem.W.keepIn K (.ref f14) = true)
    (a15 : PySem.W.nsIn K mainGlobals "_ties_of_each" = some (some (.ref f15))) (l15 : K.lookup f15 = some ⟨oc15, od15, .func (PySem.W.fnOf "_ties_of_each" "_ties_of_each" (defArgs s_ties_of_each) (defBody s_ties_of_each) (defScope s_ties_of_each) .none kV15 dc15 pm15 an15 cd15 ct15), sl15⟩) (c15 : PySem.W.codeIn K cd15 "_ties_of_each" = true) (k15 : PySem.W.keepIn K (.ref f15) = true)
    (a16 : PySem.W.nsIn K mainGlobals "walk_from" = some (some (.ref f16))) (l16 : K.lookup f16 = some ⟨oc16, od16, .func (PySem.W.fnOf "walk_from" "walk_from" (defArgs s_walk_from) (defBody s_walk_from) (defScope s_walk_from) .none kV16 dc16 pm16 an16 cd16 ct16), sl16⟩) (c16 : PySem.W.codeIn K cd16 "walk_from" = true) (k16 : PySem.W.keepIn K (.ref f16) = true)
    (a17 : PySem.W.nsIn K mainGlobals "check_places" = some (some (.ref f17))) (l17 : K.lookup f17 = some ⟨oc17, od17, .func (PySem.W.fnOf "check_places" "check_places" (defArgs s_check_places) (defBody s_check_places) (defScope s_check_places) .none kV17 dc17 pm17 an17 cd17 ct17), sl17⟩) (c17 : PySem.W.codeIn K cd17 "check_places" = true) (k17 : PySem.W.keepIn K (.ref f17) = true)
    (a18 : PySem.W.nsIn K mainGlobals "lengths_from" = some (some (.ref f18))) (l18 : K.lookup f18 = some ⟨oc18, od18, .func (PySem.W.fnOf "lengths_from" "lengths_from" (defArgs s_lengths_from) (defBody s_lengths_from) (defScope s_lengths_from) .none kV18 dc18 pm18 an18 cd18 ct18), sl18⟩) (c18 : PySem.W.codeIn K cd18 "lengths_from" = true) (k18 : PySem.W.keepIn K (.ref f18) = true)
    (a19 : PySem.W.nsIn K mainGlobals "length_between" = some (some (.ref f19))) (l19 : K.lookup f19 = some ⟨oc19, od19, .func (PySem.W.fnOf "length_between" "length_between" (defArgs s_length_between) (defBody s_length_between) (defScope s_length_between) .none kV19 dc19 pm19 an19 cd19 ct19), sl19⟩) (c19 : PySem.W.codeIn K cd19 "length_between" = true) (k19 : PySem.W.keepIn K (.ref f19) = true)
    (a20 : PySem.W.nsIn K mainGlobals "_is_point" = some (some (.ref f20))) (l20 : K.lookup f20 = some ⟨oc20, od20, .func (PySem.W.fnOf "_is_point" "_is_point" (defArgs s_is_point) (defBody s_is_point) (defScope s_is_point) .none kV20 dc20 pm20 an20 cd20 ct20), sl20⟩) (c20 : PySem.W.codeIn K cd20 "_is_point" = true) (k20 : PySem.W.keepIn K (.ref f20) = true)
    (a21 : PySem.W.nsIn K mainGlobals "_doubled_from" = some (some (.ref f21))) (l21 : K.lookup f21 = some ⟨oc21, od21, .func (PySem.W.fnOf "_doubled_from" "_doubled_from" (defArgs s_doubled_from) (defBody s_doubled_from) (defScope s_doubled_from) .none kV21 dc21 pm21 an21 cd21 ct21), sl21⟩) (c21 : PySem.W.codeIn K cd21 "_doubled_from" = true) (k21 : PySem.W.keepIn K (.ref f21) = true)
    (a22 : PySem.W.nsIn K mainGlobals "paper_shown" = some (some (.ref f22))) (l22 : K.lookup f22 = some ⟨oc22, od22, .func (PySem.W.fnOf "paper_shown" "paper_shown" (defArgs s_paper_shown) (defBody s_paper_shown) (defScope s_paper_shown) .none kV22 dc22 pm22 an22 cd22 ct22), sl22⟩) (c22 : PySem.W.codeIn K cd22 "paper_shown" = true) (k22 : PySem.W.keepIn K (.ref f22) = true)
    (a23 : PySem.W.nsIn K mainGlobals "_law_right" = some (some (.ref f23))) (l23 : K.lookup f23 = some ⟨oc23, od23, .func (PySem.W.fnOf "_law_right" "_law_right" (defArgs s_law_right) (defBody s_law_right) (defScope s_law_right) .none kV23 dc23 pm23 an23 cd23 ct23), sl23⟩) (c23 : PySem.W.codeIn K cd23 "_law_right" = true) (k23 : PySem.W.keepIn K (.ref f23) = true)
    (a24 : PySem.W.nsIn K mainGlobals "law" = some (some (.ref f24))) (l24 : K.lookup f24 = some ⟨oc24, od24, .func (PySem.W.fnOf "law" "law" (defArgs s_law) (defBody s_law) (defScope s_law) .none kV24 dc24 pm24 an24 cd24 ct24), sl24⟩) (c24 : PySem.W.codeIn K cd24 "law" = true) (k24 : PySem.W.keepIn K (.ref f24) = true)
    (zbool : PySem.W.nsIn K mainGlobals "bool" = some none)
    (zenumerate : PySem.W.nsIn K mainGlobals "enumerate" = some none)
    (zint : PySem.W.nsIn K mainGlobals "int" = some none)
    (zisinstance : PySem.W.nsIn K mainGlobals "isinstance" = some none)
    (zlen : PySem.W.nsIn K mainGlobals "len" = some none)
    (zlist : PySem.W.nsIn K mainGlobals "list" = some none)
    (zmax : PySem.W.nsIn K mainGlobals "max" = some none)
    (zmin : PySem.W.nsIn K mainGlobals "min" = some none)
    (zrange : PySem.W.nsIn K mainGlobals "range" = some none)
    (zsorted : PySem.W.nsIn K mainGlobals "sorted" = some none)
    (ztuple : PySem.W.nsIn K mainGlobals "tuple" = some none)
    (zzip : PySem.W.nsIn K mainGlobals "zip" = some none)
    (zgcd : PySem.W.nsIn K mainGlobals "gcd" = some (some (.builtin "math.gcd"))) :
    ∃ fd : FuncData, (∀ (s : Shared) (v : Value), BindsTo s fd ⟨[v], []⟩ [("script", v)]) ∧ ∀ base : Heap, K.In base → base.Ns mainGlobals mg → FnOk l.prog w K mg base CX0 7 fa fd ["script"] (spLaw K) := by
  have e := hfa.symm.trans (PySem.W.mg_of X G a24)
  cases e
  have F1 := fun_mk (st := s_law_folded) l1 c1 k1
  have b1 := F1.binds (ps := ["script"]) fun _ _ _ _ _ _ us hl => match us, hl with | [_], _ => rfl
  have F2 := fun_mk (st := s_law_seed) l2 c2 k2
  have b2 := F2.binds (ps := ["cell"]) fun _ _ _ _ _ _ us hl => match us, hl with | [_], _ => rfl
  have F3 := fun_mk (st := s_law_draw) l3 c3 k3
  have b3 := F3.binds (ps := ["seed", "most"]) fun _ _ _ _ _ _ us hl => match us, hl with | [_, _], _ => rfl
  have F4 := fun_mk (st := s_law_name) l4 c4 k4
  have b4 := F4.binds (ps := ["seed", "names"]) fun _ _ _ _ _ _ us hl => match us, hl with | [_, _], _ => rfl
  have F5 := fun_mk (st := s_law_length) l5 c5 k5
  have b5 := F5.binds (ps := ["seed", "kind"]) fun _ _ _ _ _ _ us hl => match us, hl with | [_, _], _ => rfl
  have F6 := fun_mk (st := s_law_tree) l6 c6 k6
  have b6 := F6.binds (ps := ["seed", "most"]) fun _ _ _ _ _ _ us hl => match us, hl with | [_, _], _ => rfl
  have F7 := fun_mk (st := s_law_lengths) l7 c7 k7
  have b7 := F7.binds (ps := ["tree"]) fun _ _ _ _ _ _ us hl => match us, hl with | [_], _ => rfl
  have F8 := fun_mk (st := s_law_half) l8 c8 k8
  have b8 := F8.binds (ps := ["number"]) fun _ _ _ _ _ _ us hl => match us, hl with | [_], _ => rfl
  have F9 := fun_mk (st := s_law_amid) l9 c9 k9
  have b9 := F9.binds (ps := ["tree", "lengths", "begin", "end"]) fun _ _ _ _ _ _ us hl => match us, hl with | [_, _, _, _], _ => rfl
  have F10 := fun_mk (st := s_law_divides) l10 c10 k10
  have b10 := F10.binds (ps := ["one", "other"]) fun _ _ _ _ _ _ us hl => match us, hl with | [_, _], _ => rfl
  have F11 := fun_mk (st := s_law_from_point) l11 c11 k11
  have b11 := F11.binds (ps := ["tree", "lengths", "point"]) fun _ _ _ _ _ _ us hl => match us, hl with | [_, _, _], _ => rfl
  have F12 := fun_mk (st := s_law_due) l12 c12 k12
  have b12 := F12.binds (ps := ["tree", "lengths", "number", "paper"]) fun _ _ _ _ _ _ us hl => match us, hl with | [_, _, _, _], _ => rfl
  have F13 := fun_mk (st := s_law_bent_point) l13 c13 k13
  have b13 := F13.binds (ps := ["seed", "tree", "point"]) fun _ _ _ _ _ _ us hl => match us, hl with | [_, _, _], _ => rfl
  have F14 := fun_mk (st := s_law_bent) l14 c14 k14
  have b14 := F14.binds (ps := ["seed", "tree", "number", "paper"]) fun _ _ _ _ _ _ us hl => match us, hl with | [_, _, _, _], _ => rfl
  have F15 := fun_mk (st := s_ties_of_each) l15 c15 k15
  have b15 := F15.binds (ps := ["tree"]) fun _ _ _ _ _ _ us hl => match us, hl with | [_], _ => rfl
  have F16 := fun_mk (st := s_walk_from) l16 c16 k16
  have b16 := F16.binds (ps := ["tree", "start"]) fun _ _ _ _ _ _ us hl => match us, hl with | [_, _], _ => rfl
  have F17 := fun_mk (st := s_check_places) l17 c17 k17
  have b17 := F17.binds (ps := ["tree", "names"]) fun _ _ _ _ _ _ us hl => match us, hl with | [_, _], _ => rfl
  have F18 := fun_mk (st := s_lengths_from) l18 c18 k18
  have b18 := F18.binds (ps := ["tree", "place"]) fun _ _ _ _ _ _ us hl => match us, hl with | [_, _], _ => rfl
  have F19 := fun_mk (st := s_length_between) l19 c19 k19
  have b19 := F19.binds (ps := ["tree", "one", "other"]) fun _ _ _ _ _ _ us hl => match us, hl with | [_, _, _], _ => rfl
  have F20 := fun_mk (st := s_is_point) l20 c20 k20
  have b20 := F20.binds (ps := ["tree", "point"]) fun _ _ _ _ _ _ us hl => match us, hl with | [_, _], _ => rfl
  have F21 := fun_mk (st := s_doubled_from) l21 c21 k21
  have b21 := F21.binds (ps := ["tree", "point"]) fun _ _ _ _ _ _ us hl => match us, hl with | [_, _], _ => rfl
  have F22 := fun_mk (st := s_paper_shown) l22 c22 k22
  have b22 := F22.binds (ps := ["tree", "number", "paper"]) fun _ _ _ _ _ _ us hl => match us, hl with | [_, _, _], _ => rfl
  have F23 := fun_mk (st := s_law_right) l23 c23 k23
  have b23 := F23.binds (ps := ["seed", "tree"]) fun _ _ _ _ _ _ us hl => match us, hl with | [_, _], _ => rfl
  have F24 := fun_mk (st := s_law) l24 c24 k24
  have T0 : TxtG mg := ⟨PySem.W.mg_none_of X G zlen, PySem.W.mg_none_of X G zmax, PySem.W.mg_none_of X G zmin, PySem.W.mg_none_of X G zint, PySem.W.mg_none_of X G zrange, PySem.W.mg_none_of X G zlist, PySem.W.mg_none_of X G ztuple⟩
  have TW : TxtW mg := ⟨PySem.W.mg_none_of X G ztuple⟩
  have TM : TxtM mg := ⟨PySem.W.mg_none_of X G zlen, PySem.W.mg_none_of X G zrange, PySem.W.mg_none_of X G zmax, PySem.W.mg_none_of X G zmin, PySem.W.mg_none_of X G zenumerate, PySem.W.mg_none_of X G zzip, PySem.W.mg_none_of X G zsorted, PySem.W.mg_none_of X G zisinstance, PySem.W.mg_none_of X G zbool⟩
  have TH : TxtH mg := ⟨PySem.W.mg_none_of X G zlen, PySem.W.mg_of X G zgcd, PySem.W.mg_none_of X G zzip, PySem.W.mg_none_of X G zmin, PySem.W.mg_none_of X G zmax⟩
  have C_law_folded : ∀ base : Heap, Cal l.prog w K mg base 1 "_law_folded" (spFolded K) := fun base => ⟨f1, _, _, ok_folded F1 T0, PySem.W.mg_of X G a1, k1, b1⟩
  have C_law_seed : ∀ base : Heap, Cal l.prog w K mg base 1 "_law_seed" spSeed := fun base => ⟨f2, _, _, ok_seed F2 T0, PySem.W.mg_of X G a2, k2, b2⟩
  have C_law_draw : ∀ base : Heap, Cal l.prog w K mg base 1 "_law_draw" spDraw := fun base => ⟨f3, _, _, ok_draw F3 T0, PySem.W.mg_of X G a3, k3, b3⟩
  have C_law_name : ∀ base : Heap, Cal l.prog w K mg base 2 "_law_name" spName := fun base => ⟨f4, _, _, ok_name F4 T0 (C_law_draw base), PySem.W.mg_of X G a4, k4, b4⟩
  have C_law_length : ∀ base : Heap, Cal l.prog w K mg base 2 "_law_length" spLength := fun base => ⟨f5, _, _, ok_length F5 (C_law_draw base), PySem.W.mg_of X G a5, k5, b5⟩
  have C_law_tree : ∀ base : Heap, Cal l.prog w K mg base 3 "_law_tree" spTree := fun base => ⟨f6, _, _, ok_tree F6 T0 (C_law_draw base) (C_law_name base) (C_law_length base), PySem.W.mg_of X G a6, k6, b6⟩
  have C_law_lengths : ∀ base : Heap, Cal l.prog w K mg base 2 "_law_lengths" spLengths := fun base => ⟨f7, _, _, ok_lengths F7, PySem.W.mg_of X G a7, k7, b7⟩
  have C_law_half : ∀ base : Heap, Cal l.prog w K mg base 1 "_law_half" spLHalf := fun base => ⟨f8, _, _, ok_lhalf F8, PySem.W.mg_of X G a8, k8, b8⟩
  have C_law_amid : ∀ base : Heap, Cal l.prog w K mg base 2 "_law_amid" spAmid := fun base => ⟨f9, _, _, ok_amid F9 TM (C_law_half base), PySem.W.mg_of X G a9, k9, b9⟩
  have C_law_divides : ∀ base : Heap, Cal l.prog w K mg base 1 "_law_divides" spDiv := fun base => ⟨f10, _, _, ok_divides F10 TH, PySem.W.mg_of X G a10, k10, b10⟩
  have C_law_from_point : ∀ base : Heap, Cal l.prog w K mg base 2 "_law_from_point" spFromP := fun base => ⟨f11, _, _, ok_from_point F11 TM (C_law_divides base), PySem.W.mg_of X G a11, k11, b11⟩
  have C_law_due : ∀ base : Heap, Cal l.prog w K mg base 3 "_law_due" spDueP := fun base => ⟨f12, _, _, ok_due F12 TM (C_law_from_point base), PySem.W.mg_of X G a12, k12, b12⟩
  have C_law_bent_point : ∀ base : Heap, Cal l.prog w K mg base 2 "_law_bent_point" spBentP := fun base => ⟨f13, _, _, ok_bent_point F13 TM (C_law_draw base), PySem.W.mg_of X G a13, k13, b13⟩
  have C_law_bent : ∀ base : Heap, Cal l.prog w K mg base 3 "_law_bent" spBent := fun base => ⟨f14, _, _, ok_bent F14 TM (C_law_draw base) (C_law_bent_point base), PySem.W.mg_of X G a14, k14, b14⟩
  have C_ties_of_each : ∀ base : Heap, Cal l.prog w K mg base 1 "_ties_of_each" spTies := fun base => ⟨f15, _, _, ok_ties_of_each F15, PySem.W.mg_of X G a15, k15, b15⟩
  have Cwalk_from : ∀ base : Heap, Cal l.prog w K mg base 2 "walk_from" spWalk := fun base => ⟨f16, _, _, ok_walk_from F16 (C_ties_of_each base), PySem.W.mg_of X G a16, k16, b16⟩
  have Ccheck_places : ∀ base : Heap, Cal l.prog w K mg base 1 "check_places" spCheck := fun base => ⟨f17, _, _, ok_check_places F17, PySem.W.mg_of X G a17, k17, b17⟩
  have Clengths_from : ∀ base : Heap, Cal l.prog w K mg base 3 "lengths_from" spLens := fun base => ⟨f18, _, _, ok_lengths_from F18 TW (Ccheck_places base) (Cwalk_from base), PySem.W.mg_of X G a18, k18, b18⟩
  have Clength_between : ∀ base : Heap, Cal l.prog w K mg base 3 "length_between" spLen := fun base => ⟨f19, _, _, ok_length_between F19 (Ccheck_places base) (Cwalk_from base), PySem.W.mg_of X G a19, k19, b19⟩
  have C_is_point : ∀ base : Heap, Cal l.prog w K mg base 3 "_is_point" spIsPt := fun base => ⟨f20, _, _, ok_is_point F20 TH, PySem.W.mg_of X G a20, k20, b20⟩
  have C_doubled_from : ∀ base : Heap, Cal l.prog w K mg base 4 "_doubled_from" spDbl := fun base => ⟨f21, _, _, ok_doubled F21 TH (Clength_between base) (Clengths_from base), PySem.W.mg_of X G a21, k21, b21⟩
  have Cpaper_shown : ∀ base : Heap, Cal l.prog w K mg base 5 "paper_shown" spShown := fun base => ⟨f22, _, _, ok_shown F22 TH (Clength_between base) (C_is_point base) (C_doubled_from base), PySem.W.mg_of X G a22, k22, b22⟩
  have C_law_right : ∀ base : Heap, Cal l.prog w K mg base 6 "_law_right" spRight := fun base => ⟨f23, _, _, ok_right F23 TM (C_law_draw base) (C_law_lengths base) (C_law_amid base) (C_law_bent base) (C_law_due base) (Cpaper_shown base), PySem.W.mg_of X G a23, k23, b23⟩
  exact ⟨_, fun s v => .of_eq rfl, fun base _ _ => ok_law F24 TM (C_law_folded base) (C_law_seed base) (C_law_draw base) (C_law_tree base) (C_law_right base) (Cpaper_shown base)⟩
end Far
open PySem PySem.W PyProof.Rows in
set_option maxRecDepth 100000 in
set_option maxHeartbeats 0 in
theorem PySem.Challenge.cw_farplaces_k13_papers_looked_at_holds : PySem.Challenge.rw_farplaces_k13_papers_looked_at.Holds := by
  w_on; o_law; k_head; (case hw => w_witness2)
  k_fill
  refine L2.walk_of (l := PySem.Challenge.rw_farplaces_k13_papers_looked_at) (n := 63) (k := 7) (x := "script") (CX := fun _ => L2.CX0) (sp := fun w => Far.spLaw _) rfl (by decide) rfl ⟨rfl, by decide, by decide⟩ (fun w h Y => PySem.W.kIn_of Y) ?F (fun _ _ a ns hl _ hS => ⟨a, ns, rfl, hS, hl, fun _ => rfl⟩) (fun _ _ _ _ _ h => h)
  case F =>
    intro w mg fa h KX G hmg
    refine' Far.all_mk KX G hmg ?a1 ?l1 ?c1 ?k1 ?a2 ?l2 ?c2 ?k2 ?a3 ?l3 ?c3 ?k3 ?a4 ?l4 ?c4 ?k4 ?a5 ?l5 ?c5 ?k5 ?a6 ?l6 ?c6 ?k6 ?a7 ?l7 ?c7 ?k7 ?a8 ?l8 ?c8 ?k8 ?a9 ?l9 ?c9 ?k9 ?a10 ?l10 ?c10 ?k10 ?a11 ?l11 ?c11 ?k11 ?a12 ?l12 ?c12 ?k12 ?a13 ?l13 ?c13 ?k13 ?a14 ?l14 ?c14 ?k14 ?a15 ?l15 ?c15 ?k15 ?a16 ?l16 ?c16 ?k16 ?a17 ?l17 ?c17 ?k17 ?a18 ?l18 ?c18 ?k18 ?a19 ?l19 ?c19 ?k19 ?a20 ?l20 ?c20 ?k20 ?a21 ?l21 ?c21 ?k21 ?a22 ?l22 ?c22 ?k22 ?a23 ?l23 ?c23 ?k23 ?a24 ?l24 ?c24 ?k24 ?zbool ?zenumerate ?zint ?zisinstance ?zlen ?zlist ?zmax ?zmin ?zrange ?zsorted ?ztuple ?zzip ?zgcd
    (case a1 => k_is); (case l1 => k_is); (case c1 => k_is); (case k1 => k_is); (case a2 => k_is); (case l2 => k_is); (case c2 => k_is); (case k2 => k_is); (case a3 => k_is); (case l3 => k_is); (case c3 => k_is); (case k3 => k_is); (case a4 => k_is); (case l4 => k_is); (case c4 => k_is); (case k4 => k_is); (case a5 => k_is); (case l5 => k_is); (case c5 => k_is); (case k5 => k_is); (case a6 => k_is); (case l6 => k_is); (case c6 => k_is); (case k6 => k_is); (case a7 => k_is); (case l7 => k_is); (case c7 => k_is); (case k7 => k_is); (case a8 => k_is); (case l8 => k_is); (case c8 => k_is); (case k8 => k_is); (case a9 => k_is); (case l9 => k_is); (case c9 => k_is); (case k9 => k_is); (case a10 => k_is); (case l10 => k_is); (case c10 => k_is); (case k10 => k_is); (case a11 => k_is); (case l11 => k_is); (case c11 => k_is); (case k11 => k_is); (case a12 => k_is); (case l12 => k_is); (case c12 => k_is); (case k12 => k_is); (case a13 => k_is); (case l13 => k_is); (case c13 => k_is); (case k13 => k_is); (case a14 => k_is); (case l14 => k_is); (case c14 => k_is); (case k14 => k_is); (case a15 => k_is); (case l15 => k_is); (case c15 => k_is); (case k15 => k_is); (case a16 => k_is); (case l16 => k_is); (case c16 => k_is); (case k16 => k_is); (case a17 => k_is); (case l17 => k_is); (case c17 => k_is); (case k17 => k_is); (case a18 => k_is); (case l18 => k_is); (case c18 => k_is); (case k18 => k_is); (case a19 => k_is); (case l19 => k_is); (case c19 => k_is); (case k19 => k_is); (case a20 => k_is); (case l20 => k_is); (case c20 => k_is); (case k20 => k_is); (case a21 => k_is); (case l21 => k_is); (case c21 => k_is); (case k21 => k_is); (case a22 => k_is); (case l22 => k_is); (case c22 => k_is); (case k22 => k_is); (case a23 => k_is); (case l23 => k_is); (case c23 => k_is); (case k23 => k_is); (case a24 => k_is); (case l24 => k_is); (case c24 => k_is); (case k24 => k_is); (case zbool => k_is); (case zenumerate => k_is); (case zint => k_is); (case zisinstance => k_is); (case zlen => k_is); (case zlist => k_is); (case zmax => k_is); (case zmin => k_is); (case zrange => k_is); (case zsorted => k_is); (case ztuple => k_is); (case zzip => k_is); (case zgcd => k_is)

