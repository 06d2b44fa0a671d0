import PyProof.Rows.All
import Wide.All
import OpenK.AllK
import Wide.FinOn
import HandS.ForMost
import HandS.Wide
import HandS.Codes
import HandS.Conv
import HandS.TupAny
import HandS.Style
import HandS.IsInst
import HandS.FStr
import HandS.DictComp
import HandS.NoneIn
import KE.GoesEnum
import KE.GoesMore
import PyProof.EnumMake
import HandS.Zip
import HandS.Lambda
import HandS.SortKw
import KE.SortKeyHeap
import KE.KSortKey
import KE.SortData
import HandS.Sort
import HandS.SortRule
import HandS.List
import KE.KTupSum
import PyProof.WalkInts
import HandS.EndTab
import KE.KNest
import KE.KNestM
import PySem.Challenge.RW_farplaces_k08_so_manieth_pairs
set_option Elab.async false
set_option linter.all false
set_option maxRecDepth 100000
set_option maxHeartbeats 8000000
namespace Far
open PySem PySem.Spec PyProof.Rows L2
open C8 (pss_cut tCut)
open SX (S)
def topS (i : Nat) : Stmt := PySem.Challenge.pw_farplaces_k08_so_manieth_pairs.main.body.getD i (.Pass ⟨0, 0, 0, 0⟩)

theorem hd_of {A : Around} {k : Nat} (hr : Room k A) (h : 1 ≤ k) : A.units + 64 < cLine := by
  have := hr.units
  omega

/-- a def of the module that may be called by its name -/
structure Cal (P : Program) (w : World) (K : PySem.W.Frag) (mg : Str → Option Value) (base : Heap) (k : Nat) (x : Str) (sp : Sp) : Prop where
  ex : ∃ (f : Addr) (fd : FuncData) (ps : List Str), FnOk P w K mg base CX0 k f fd ps sp ∧ mg x = some (.ref f) ∧ PySem.W.keepIn K (.ref f) = true ∧ Binds K fd ps []
theorem pe_c {X : Cx} {k j : Nat} {x : Str} {sp : Sp} {p pos : Pos} {e : Expr} {es : List Expr} {t : TA} (c : Cal X.prog X.w X.K X.mg X.base k x sp) (hr : Room j X.A) (hk : k ≤ j) (hg : Gl X x) (ha : PA X (e :: es) t)
    (hdb : (x == ("__debug__" : Str)) = false := by decide) (he : starEach (e :: es) X.env = (false, eval e X.env) :: starEach es X.env := by rfl) (hpl : (backTo pos (starEach es X.env)).any (·.1) = false := by rfl) :
    PE X (.Call (.Name x p) (e :: es) [] pos) (tCall sp [] E0 t) := by
  obtain ⟨f, fd, ps, F, hm, kp, b⟩ := c.ex
  exact pe_call F (hr.mono hk) hg hm kp b .nil pass0 ha hdb he hpl

theorem bt_len : bootBuiltins ("len" : Str) = some (.builtin "len") := by decide +kernel
theorem bt_sum : bootBuiltins ("sum" : Str) = some (.builtin "sum") := by decide +kernel
theorem bt_max : bootBuiltins ("max" : Str) = some (.builtin "max") := by decide +kernel
theorem bt_all : bootBuiltins ("all" : Str) = some (.builtin "all") := by decide +kernel
theorem bt_isinstance : bootBuiltins ("isinstance" : Str) = some (.builtin "isinstance") := by decide +kernel
theorem bt_int : bootBuiltins ("int" : Str) = some (.type "int") := by decide +kernel
theorem bt_str : bootBuiltins ("str" : Str) = some (.type "str") := by decide +kernel
theorem bt_tuple : bootBuiltins ("tuple" : Str) = some (.type "tuple") := by decide +kernel
theorem bt_bool : bootBuiltins ("bool" : Str) = some (.type "bool") := by decide +kernel
theorem bt_list : bootBuiltins ("list" : Str) = some (.type "list") := by decide +kernel
/-- rules with the written part named, for use within a comprehension -/
def rLenV (K : PySem.W.Frag) : List V → Hp → VK → Prop := fun xs H Q => ∃ x n, xs = [x] ∧ LenV K x H n ∧ Q (.int n) H
theorem lenK {X : Cx} {K : PySem.W.Frag} (e : X.K = K := by rfl) : CallR X (.builtin "len") (rLenV K) := by
  subst e
  exact call_len
theorem ixl {X : Cx} {K : PySem.W.Frag} (e : X.K = K := by rfl) : IxR X (rIxL K) := by
  subst e
  exact ix_list
theorem ixt {X : Cx} {K : PySem.W.Frag} (e : X.K = K := by rfl) : IxR X (rIxT K) := by
  subst e
  exact ix_tup
/-- what the module's names hold that are built-ins, and its constants -/
structure Txt (mg : Str → Option Value) : Prop where
  len : mg "len" = none
  sum : mg "sum" = none
  range : mg "range" = none
  int : mg "int" = none
  max : mg "max" = none
  list : mg "list" = none
  tuple : mg "tuple" = none

/-- all that stood stands as it was, but for the one object -/
def SmX (d : Addr) (H H' : Hp) : Prop := ∀ b o, b ≠ d → H b = some o → H' b = some o
theorem SmX.refl {d : Addr} (H : Hp) : SmX d H H := fun _ _ _ h => h
theorem SmX.trans {d : Addr} {H H1 H2 : Hp} (a : SmX d H H1) (b : SmX d H1 H2) : SmX d H H2 := fun x o n h => b x o n (a x o n h)
theorem SmX.new {d : Addr} {H H1 : Hp} {p : Addr} {o : HO} (a : SmX d H H1) (n : H1 p = none) : SmX d H (upd H1 p o) := fun x u nx h => by
  rw [upd_ne (ne_of_none (a x u nx h) n)]
  exact a x u nx h
theorem SmX.mut {d : Addr} {H H1 : Hp} {o : HO} (a : SmX d H H1) : SmX d H (upd H1 d o) := fun x u nx h => by
  rw [upd_ne nx]
  exact a x u nx h
/-- an object that the first heap does not know may change -/
theorem SmX.put {d : Addr} {H H1 : Hp} {p : Addr} {o : HO} (a : SmX d H H1) (n : H p = none) : SmX d H (upd H1 p o) := fun x u nx h => by
  rw [upd_ne (ne_of_none h n)]
  exact a x u nx h

/-- the deck at d, its cells at c: at most n were mixed -/
def DeckAt (H : Hp) (d c : Addr) (n : Nat) : Prop := ∃ (cs : List Int) (i l m z : Int), H d = some (.lst [.ref c, .int i, .int l, .int m, .int z]) ∧ H c = some (.lst (cs.map V.int)) ∧ c ≠ d ∧ cs.length ≤ 63 ∧ 0 ≤ i ∧ i ≤ 63 ∧ 0 ≤ l ∧ 0 ≤ m ∧ m ≤ n
theorem DeckAt.new {H : Hp} {d c p : Addr} {o : HO} {n : Nat} (h : DeckAt H d c n) (np : H p = none) : DeckAt (upd H p o) d c n := by
  obtain ⟨cs, i, l, m, z, h1, h2, h3⟩ := h
  exact ⟨cs, i, l, m, z, by rw [upd_ne (ne_of_none h1 np)]; exact h1, by rw [upd_ne (ne_of_none h2 np)]; exact h2, h3⟩
theorem DeckAt.put {H : Hp} {d c p : Addr} {o : HO} {n : Nat} (h : DeckAt H d c n) (nd : p ≠ d) (nc : p ≠ c) : DeckAt (upd H p o) d c n := by
  obtain ⟨cs, i, l, m, z, h1, h2, h3⟩ := h
  exact ⟨cs, i, l, m, z, by rw [upd_ne nd.symm]; exact h1, by rw [upd_ne nc.symm]; exact h2, h3⟩
theorem DeckAt.nd {H : Hp} {d c p : Addr} {n : Nat} (h : DeckAt H d c n) (np : H p = none) : p ≠ d := fun e => by
  obtain ⟨_, _, _, _, _, h1, _⟩ := h
  rw [e, h1] at np
  cases np
theorem DeckAt.nc {H : Hp} {d c p : Addr} {n : Nat} (h : DeckAt H d c n) (np : H p = none) : p ≠ c := fun e => by
  obtain ⟨_, _, _, _, _, _, h2, _⟩ := h
  rw [e, h2] at np
  cases np
theorem DeckAt.mono {H : Hp} {d c : Addr} {n m : Nat} (h : DeckAt H d c n) (le : n ≤ m) : DeckAt H d c m := by
  obtain ⟨cs, i, l, m', z, h1, h2, h3, h4, h5, h6, h7, h8, h9⟩ := h
  exact ⟨cs, i, l, m', z, h1, h2, h3, h4, h5, h6, h7, h8, by omega⟩
theorem SmX.free {d : Addr} {H H' : Hp} {p : Addr} (a : SmX d H H') (n : H' p = none) (nd : p ≠ d) : H p = none := by
  cases q : H p with
  | none => rfl
  | some o =>
    rw [a p o nd q] at n
    cases n

/-- the signs of a name -/
def NameOk (l : List Nat) : Prop := 1 ≤ l.length ∧ l.length ≤ 8 ∧ ∀ c ∈ l, 97 ≤ c ∧ c ≤ 122
theorem sz_le {n : Nat} (h : n ≤ 100000) : n ≤ sizeLine := Nat.le_trans h (by decide)
theorem sz_lt {n : Nat} (h : n ≤ 100000) : n < sizeLine := Nat.lt_of_le_of_lt h (by decide)
theorem atI_in {α : Type} {xs : List α} {i : Int} (h0 : 0 ≤ i) (h1 : i < xs.length) : ∃ v, atI xs i = some v ∧ v ∈ xs := by
  have e : i = ((i.toNat : Nat) : Int) := by omega
  have l : i.toNat < xs.length := by omega
  refine ⟨xs[i.toNat], ?_, List.getElem_mem l⟩
  have q := atI_nat (List.getElem?_eq_getElem l)
  rwa [← e] at q
theorem S_of (z : Str) : ∃ l, z = S l := ⟨z.cps.toList, (SX.S_tl z).symm⟩
theorem join_none : ∀ ys : List (List Nat), TL.joinL [] ys = ys.flatten
  | [] => rfl
  | [x] => by simp [TL.joinL]
  | x :: y :: r => by
    have ih := join_none (y :: r)
    show x ++ ([] ++ TL.joinL [] (y :: r)) = x ++ (y :: r).flatten
    rw [ih]
    rfl
theorem flat_one (cs : List Nat) : (cs.map fun c => [c]).flatten = cs := by
  induction cs with
  | nil => rfl
  | cons c r ih => rw [List.map_cons, List.flatten_cons, ih]; rfl
theorem one_sum' (cs : List Nat) : ((cs.map fun c => S [c]).map (·.length)).sum = cs.length := by
  induction cs with
  | nil => rfl
  | cons c r ih =>
    rw [List.map_cons, List.map_cons, List.sum_cons, ih, List.length_cons, SX.S_len]
    show 1 + r.length = r.length + 1
    omega
theorem bt_min : bootBuiltins ("min" : Str) = some (.builtin "min") := by decide +kernel
theorem same_new {H H1 : Hp} {p : Addr} {o : HO} (a : Same H H1) (n : H1 p = none) : Same H (upd H1 p o) := fun x u h => by
  rw [upd_ne (ne_of_none (a x u h) n)]
  exact a x u h
theorem same_put {H H1 : Hp} {p : Addr} {o : HO} (a : Same H H1) (n : H p = none) : Same H (upd H1 p o) := fun x u h => by
  rw [upd_ne (ne_of_none h n)]
  exact a x u h
end Far

namespace Far
open PySem PySem.Spec PyProof.Rows L2
open C8 (pss_cut tCut)
open SX (S)
structure TxtG (mg : Str → Option Value) : Prop where
  len : mg "len" = none
  max : mg "max" = none
  min : mg "min" = none
  int : mg "int" = none
  range : mg "range" = none
  list : mg "list" = none
  tuple : mg "tuple" = none
/-- the seed at d, drawn from n times at most -/
def SeedAt (H : Hp) (d : Addr) (n : Nat) : Prop := ∃ a f k m : Int, H d = some (.lst [.int a, .int f, .int k, .int m]) ∧ 0 ≤ a ∧ 0 ≤ k ∧ k ≤ n ∧ 0 ≤ m ∧ m < 1999999913
theorem SeedAt.new {H : Hp} {d p : Addr} {o : HO} {n : Nat} (h : SeedAt H d n) (np : H p = none) : SeedAt (upd H p o) d n := by
  obtain ⟨a, f, k, m, h1, h2⟩ := h
  exact ⟨a, f, k, m, by rw [upd_ne (ne_of_none h1 np)]; exact h1, h2⟩
theorem SeedAt.put {H : Hp} {d p : Addr} {o : HO} {n : Nat} (h : SeedAt H d n) (nd : p ≠ d) : SeedAt (upd H p o) d n := by
  obtain ⟨a, f, k, m, h1, h2⟩ := h
  exact ⟨a, f, k, m, by rw [upd_ne nd.symm]; exact h1, h2⟩
theorem SeedAt.nd {H : Hp} {d p : Addr} {n : Nat} (h : SeedAt H d n) (np : H p = none) : p ≠ d := fun e => by
  obtain ⟨a, f, k, m, h1, _⟩ := h
  rw [e, h1] at np
  cases np
theorem SeedAt.mono {H : Hp} {d : Addr} {n m : Nat} (h : SeedAt H d n) (l : n ≤ m) : SeedAt H d m := by
  obtain ⟨a, f, k, z, h1, h2, h3, h4, h5⟩ := h
  exact ⟨a, f, k, z, h1, h2, h3, by omega, h5⟩
theorem SeedAt.lst {H : Hp} {d : Addr} {n : Nat} (h : SeedAt H d n) : ∃ xs, H d = some (.lst xs) := by
  obtain ⟨_, _, _, _, h1, _⟩ := h
  exact ⟨_, h1⟩
abbrev s_law_folded : Stmt := topS 12
abbrev N_law_folded : List Str := ["script", "found", "cell"]
theorem sc_law_folded : FnScope N_law_folded ["script"] (defScope s_law_folded) := ⟨rfl, rfl, rfl, by decide +kernel, rfl, by decide +kernel, by decide +kernel⟩
section
variable {P : Program} {w : World} {K : PySem.W.Frag} {mg : Str → Option Value} {base : Heap}
def spFolded (K : PySem.W.Frag) : Sp := fun vs H Q _ => ∃ (a : Addr) (ns : List Int), vs = [.ref a] ∧ SqL K H a (ns.map V.int) ∧ ns.length ≤ 63 ∧ ∀ r : Int, 0 ≤ r → Q (.int r) H
theorem ok_folded {f : Addr} {fd : FuncData} (F : Fun K "_law_folded" "_law_folded" s_law_folded f fd) (T : TxtG mg) : FnOk P w K mg base CX0 1 f fd ["script"] (spFolded K) := by
  refine F.ok sc_law_folded (fun vs H Q E h => ?_) (fun cdv A outer s H vs Q E hr h => ?_)
  · obtain ⟨a, ns, rfl, _⟩ := h
    rfl
  · obtain ⟨a, ns, rfl, hS, hl, q⟩ := h
    refine ⟨_, (pss_cons (ps_set (i := 1) sc_law_folded.nd rfl (.inl rfl) (pe_callB call_len_seq (by rfl) T.len bt_len (pa_cons (pv 0) pa_nil)))
      (pss_cut (ps_for PassesOwn.never rfl (pi_list (pv 0)) (pg_name (i := 2) sc_law_folded.nd rfl (.inl rfl))
        (pss_one (ps_set (i := 1) sc_law_folded.nd rfl (.inl rfl) (pe_op op_mod (pe_op op_add (pe_op op_mul (pv 1) pe_int) (pe_op op_mod (pv 2) pe_int)) pe_int))))
      (pss_one (ps_ret (pv 1))))), ?_⟩
    refine ⟨_, rfl, a, _, rfl, .inl hS, ?_⟩
    refine ⟨fun σ' H' => ∃ (r : Int) (x : Option V), σ' = [some (.ref a), some (.int r), x] ∧ 0 ≤ r ∧ H' = H, ?_, fun σ' H' hM => ?_⟩
    · refine ⟨_, rfl, a, rfl, ⟨_, hS⟩, for_list (K := K) (a := a) (xs := ns.map V.int) (fun i σ' H' => ∃ (r : Int) (x : Option V), σ' = [some (.ref a), some (.int r), x] ∧ 0 ≤ r ∧ r < 2147483647 ∧ H' = H) ⟨_, _, rfl, by omega, by rw [List.length_map]; omega, rfl⟩ (fun i σ' H' _ hP => ?_) (fun i v σ' H' hi hP => ?_) (fun σ' H' hP => ?_)⟩
      · obtain ⟨_, _, _, _, _, rfl⟩ := hP
        exact hS
      · obtain ⟨r, x, rfl, r0, r1, rfl⟩ := hP
        rw [List.getElem?_map] at hi
        cases e : ns[i]? with
        | none =>
          rw [e] at hi
          cases hi
        | some c =>
          rw [e] at hi
          have ev : v = .int c := (Option.some.inj hi).symm
          subst ev
          refine ⟨_, rfl, _, _, rfl, rfl, .inl ⟨by omega, by omega⟩, _, rfl, _, _, rfl, rfl, (by show (0 : Int) < _; decide), _, _, rfl, rfl, _, _, rfl, rfl, (by show (0 : Int) < _; decide), ?_⟩
          exact ⟨_, _, rfl, Int.emod_nonneg _ (by decide), Int.emod_lt_of_pos _ (by decide), rfl⟩
      · obtain ⟨r, x, rfl, r0, r1, rfl⟩ := hP
        exact ⟨r, x, rfl, r0, rfl⟩
    · obtain ⟨r, x, rfl, r0, rfl⟩ := hM
      exact ⟨_, rfl, q r r0⟩
end
abbrev s_law_seed : Stmt := topS 13
abbrev N_law_seed : List Str := ["cell", "number"]
theorem sc_law_seed : FnScope N_law_seed ["cell"] (defScope s_law_seed) := ⟨rfl, rfl, rfl, by decide +kernel, rfl, by decide +kernel, by decide +kernel⟩
section
variable {P : Program} {w : World} {K : PySem.W.Frag} {mg : Str → Option Value} {base : Heap}
def spSeed : Sp := fun vs H Q _ => ∃ c : Int, vs = [.int c] ∧ ∀ (H' : Hp) (d : Addr), Same H H' → H d = none → SeedAt H' d 0 → Q (.ref d) H'
theorem ok_seed {f : Addr} {fd : FuncData} (F : Fun K "_law_seed" "_law_seed" s_law_seed f fd) (T : TxtG mg) : FnOk P w K mg base CX0 1 f fd ["cell"] spSeed := by
  refine F.ok sc_law_seed (fun vs H Q E h => ?_) (fun cdv A outer s H vs Q E hr h => ?_)
  · obtain ⟨c, rfl, _⟩ := h
    rfl
  · obtain ⟨c, rfl, q⟩ := h
    refine ⟨_, (pss_cons (ps_set (i := 1) sc_law_seed.nd rfl (.inl rfl) (pe_callB (call_max2 rfl) (by rfl) T.max bt_max (pa_cons (pv 0) (pa_cons (pe_op op_sub pe_int (pv 0)) pa_nil))))
      (pss_one (ps_ret (pe_lst (pa_cons (pv 1) (pa_cons (pe_callTy call_int1 (by rfl) T.int bt_int (pa_cons (pe_cmpR op_ge (pv 1) (pe_op op_pow pe_int pe_int) (nomark _)) pa_nil)) (pa_cons pe_int (pa_cons (pe_op op_mod (pv 0) pe_int) pa_nil)))))))), ?_⟩
    refine ⟨_, rfl, _, rfl, _, _, rfl, rfl, _, _, rfl, ?_⟩
    refine ⟨_, rfl, _, rfl, _, _, rfl, rfl, ⟨by decide, by decide, by decide⟩, _, _, rfl, rfl, .inr ⟨_, rfl, ?_⟩⟩
    refine ⟨_, rfl, _, _, rfl, rfl, (by show (0 : Int) < _; decide), (by show 4 ≤ sizeLine; decide), fun d nd => ?_⟩
    refine q _ d (same_new (Same.refl H) nd) nd ⟨_, _, 0, c % 1999999913, upd_same, ?_, by omega, by omega, by omega, by omega⟩
    split <;> omega
end
abbrev s_law_draw : Stmt := topS 14
abbrev N_law_draw : List Str := ["seed", "most", "found", "number"]
theorem sc_law_draw : FnScope N_law_draw ["seed", "most"] (defScope s_law_draw) := ⟨rfl, rfl, rfl, by decide +kernel, rfl, by decide +kernel, by decide +kernel⟩
section
variable {P : Program} {w : World} {K : PySem.W.Frag} {mg : Str → Option Value} {base : Heap}
def spDraw : Sp := fun vs H Q _ => ∃ (d : Addr) (n : Nat) (many : Int), vs = [.ref d, .int many] ∧ SeedAt H d n ∧ n < 100000 ∧ 0 < many ∧ many < 2 ^ 60 ∧ ∀ (H' : Hp) (r : Int), 0 ≤ r → r < many → SmX d H H' → SeedAt H' d (n + 1) → Q (.int r) H'
theorem ok_draw {f : Addr} {fd : FuncData} (F : Fun K "_law_draw" "_law_draw" s_law_draw f fd) (T : TxtG mg) : FnOk P w K mg base CX0 1 f fd ["seed", "most"] spDraw := by
  refine F.ok sc_law_draw (fun vs H Q E h => ?_) (fun cdv A outer s H vs Q E hr h => ?_)
  · obtain ⟨d, n, many, rfl, _⟩ := h
    rfl
  · obtain ⟨d, n, many, rfl, ⟨a, g, k, m, h1, a0, k0, k1, m0, m1⟩, hn, hm0, hm1, q⟩ := h
    refine ⟨_, (pss_cons (ps_asg (pe_op op_add (pe_ix ix_list (pv 0) pe_int (fun _ _ => rfl)) pe_int) (pg_sub (pv 0) pe_int set_list))
      (pss_cut (ps_if (PW.pt (pw_and (pt_cmpR op_eq (pe_ix ix_list (pv 0) pe_int (fun _ _ => rfl)) pe_int (nomark _)) (pw_and1 (pt_cmpR op_gt (pe_ix ix_list (pv 0) pe_int (fun _ _ => rfl)) pe_int (nomark _)))))
        (pss_cons (ps_set (i := 2) sc_law_draw.nd rfl (.inl rfl) (pe_op op_mod (pe_ix ix_list (pv 0) pe_int (fun _ _ => rfl)) (pv 1)))
        (pss_cons (ps_asg (pe_op op_fdivW (pe_ix ix_list (pv 0) pe_int (fun _ _ => rfl)) (pv 1)) (pg_sub (pv 0) pe_int set_list))
        (pss_one (ps_ret (pv 2)))))
        pss_nil)
      (pss_cons (ps_set (i := 3) sc_law_draw.nd rfl (.inl rfl) (pe_op op_mod (pe_op op_mul (pe_op op_add (pe_op op_add (pe_ix ix_list (pv 0) pe_int (fun _ _ => rfl)) (pe_op op_mul pe_int (pe_ix ix_list (pv 0) pe_int (fun _ _ => rfl)))) pe_int) pe_int) pe_int))
      (pss_cons (ps_set (i := 3) sc_law_draw.nd rfl (.inl rfl) (pe_op op_mod (pe_op op_mul (pe_op op_mod (pe_op op_mul (pv 3) (pv 3)) pe_int) pe_int) pe_int))
      (pss_one (ps_ret (pe_op op_mod (pe_op op_fdiv (pv 3) pe_int) (pv 1)))))))), ?_⟩
    refine ⟨_, rfl, d, _, 2, _, rfl, rfl, SqL.of h1, rfl, k, 1, rfl, rfl, ?_⟩
    refine ⟨_, rfl, d, _, 2, 2, rfl, rfl, h1, rfl, ?_⟩
    have h2 : (upd H d (.lst [.int a, .int g, .int (k + 1), .int m])) d = some (.lst [.int a, .int g, .int (k + 1), .int m]) := upd_same
    have S1 : SmX d H (upd H d (.lst [.int a, .int g, .int (k + 1), .int m])) := (SmX.refl H).mut
    refine ⟨fun σ' H' => σ' = [some (.ref d), some (.int many), none, none] ∧ SmX d H H' ∧ H' d = some (.lst [.int a, .int g, .int (k + 1), .int m]), ?_, fun σ' H1 hM => ?_⟩
    · refine ⟨_, rfl, d, _, 1, _, rfl, rfl, SqL.of h2, rfl, rfl, _, rfl, ?_⟩
      refine ite2 (fun e => ?_) (fun e => ⟨rfl, S1, h2⟩)
      refine ⟨_, rfl, d, _, 0, _, rfl, rfl, SqL.of h2, rfl, _, _, rfl, rfl, _, rfl, ?_⟩
      refine ite2 (fun e => ?_) (fun e => ⟨rfl, S1, h2⟩)
      refine ⟨_, rfl, d, _, 0, _, rfl, rfl, SqL.of h2, rfl, _, rfl, _, _, rfl, rfl, hm0, ?_⟩
      refine ⟨_, rfl, d, _, 0, _, rfl, rfl, SqL.of h2, rfl, _, rfl, _, _, rfl, rfl, wide_div (b := 60) hm0 (by omega) (by decide) (by decide), ?_⟩
      refine ⟨_, rfl, d, _, 0, 0, rfl, rfl, h2, rfl, ?_⟩
      refine ⟨_, rfl, ?_⟩
      exact q _ _ (Int.emod_nonneg _ (by omega)) (Int.emod_lt_of_pos _ hm0) S1.mut ⟨a / many, g, k + 1, m, upd_same, Int.ediv_nonneg a0 (by omega), by omega, by omega, m0, m1⟩
    · obtain ⟨rfl, SM, h3⟩ := hM
      refine ⟨_, rfl, d, _, 3, _, rfl, rfl, SqL.of h3, rfl, _, rfl, d, _, 2, _, rfl, rfl, SqL.of h3, rfl, _, _, rfl, rfl, .inl ⟨by omega, by omega⟩, _, _, rfl, rfl, _, _, rfl, rfl, _, _, rfl, rfl, .inl ⟨by omega, by omega⟩, _, _, rfl, rfl, (by show (0 : Int) < _; decide), ?_⟩
      generalize hx : (m + 6997 * (k + 1) + 11) * 48271 % 2147483647 = x
      have x0 : 0 ≤ x := by omega
      have x1 : x < 2147483647 := by omega
      refine ⟨_, rfl, _, rfl, _, _, rfl, rfl, .inl ⟨by omega, by omega⟩, _, _, rfl, rfl, (by show (0 : Int) < _; decide), ?_⟩
      generalize hy : x * x % 2147483629 = y
      have y0 : 0 ≤ y := by omega
      have y1 : y < 2147483629 := by omega
      refine ⟨_, _, rfl, rfl, .inl ⟨by omega, by omega⟩, _, _, rfl, rfl, (by show (0 : Int) < _; decide), ?_⟩
      refine ⟨_, rfl, _, _, rfl, rfl, ⟨by decide, by decide⟩, _, rfl, _, _, rfl, rfl, hm0, ?_⟩
      exact q _ _ (Int.emod_nonneg _ (by omega)) (Int.emod_lt_of_pos _ hm0) SM ⟨a, g, k + 1, m, h3, a0, by omega, by omega, m0, m1⟩
end
abbrev s_law_length : Stmt := topS 16
abbrev N_law_length : List Str := ["seed", "kind"]
theorem sc_law_length : FnScope N_law_length ["seed", "kind"] (defScope s_law_length) := ⟨rfl, rfl, rfl, by decide +kernel, rfl, by decide +kernel, by decide +kernel⟩
section
variable {P : Program} {w : World} {K : PySem.W.Frag} {mg : Str → Option Value} {base : Heap}
def spLength : Sp := fun vs H Q _ => ∃ (d : Addr) (n : Nat) (kind : Int), vs = [.ref d, .int kind] ∧ SeedAt H d n ∧ n < 90000 ∧ 0 ≤ kind ∧ kind < 5 ∧ ∀ (H' : Hp) (r : Int), 1 ≤ r → r ≤ 1000000 → SmX d H H' → SeedAt H' d (n + 3) → Q (.int r) H'
theorem ok_length {f : Addr} {fd : FuncData} (F : Fun K "_law_length" "_law_length" s_law_length f fd) (C_law_draw : Cal P w K mg base 1 "_law_draw" spDraw) : FnOk P w K mg base CX0 2 f fd ["seed", "kind"] spLength := by
  refine F.ok sc_law_length (fun vs H Q E h => ?_) (fun cdv A outer s H vs Q E hr h => ?_)
  · obtain ⟨d, n, kind, rfl, _⟩ := h
    rfl
  · obtain ⟨d, n, kind, rfl, SD, hn, k0, k1, q⟩ := h
    refine ⟨_, (pss_one (ps_ret (pe_ix ix_list (pe_lst (pa_cons pe_int (pa_cons (pe_op op_add pe_int (pe_c C_law_draw hr (by decide) rfl (pa_cons (pv 0) (pa_cons pe_int pa_nil)))) (pa_cons (pe_op op_add pe_int (pe_c C_law_draw hr (by decide) rfl (pa_cons (pv 0) (pa_cons pe_int pa_nil)))) (pa_cons (pe_op op_add pe_int (pe_c C_law_draw hr (by decide) rfl (pa_cons (pv 0) (pa_cons (pe_op op_pow pe_int pe_int) pa_nil)))) (pa_cons pe_int pa_nil)))))) (pv 1) (fun _ _ => rfl)))), ?_⟩
    have e6 : (10 : Int) ^ (6 : Int).toNat = 1000000 := by decide
    refine ⟨_, rfl, d, n, 3, rfl, SD, by omega, by decide, by decide, fun H1 r1 a0 a1 S1 D1 => ⟨_, _, rfl, rfl, ?_⟩⟩
    refine ⟨_, rfl, d, _, 12, rfl, D1, by omega, by decide, by decide, fun H2 r2 b0 b1 S2 D2 => ⟨_, _, rfl, rfl, ?_⟩⟩
    refine ⟨_, rfl, _, _, rfl, rfl, ⟨by decide, by decide, by decide⟩, d, _, _, rfl, D2, by omega, by decide, by decide, fun H3 r3 c0 c1 S3 D3 => ⟨_, _, rfl, rfl, ?_⟩⟩
    refine ⟨(by show 5 ≤ sizeLine; decide), fun p np => ?_⟩
    obtain ⟨v, hv, mv⟩ := atI_in (xs := [V.int 1, .int (1 + r1), .int (1 + r2), .int (1 + r3), .int 2]) k0 (by simpa using k1)
    have hs : ∃ m : Int, v = .int m ∧ 1 ≤ m ∧ m ≤ 1000000 := by
      rw [e6] at c1
      simp only [List.mem_cons, List.not_mem_nil, or_false] at mv
      rcases mv with e | e | e | e | e
      · exact ⟨1, e, by omega, by omega⟩
      · exact ⟨_, e, by omega, by omega⟩
      · exact ⟨_, e, by omega, by omega⟩
      · exact ⟨_, e, by omega, by omega⟩
      · exact ⟨2, e, by omega, by omega⟩
    obtain ⟨m, rfl, m0, m1⟩ := hs
    refine ⟨_, rfl, p, _, kind, _, rfl, rfl, SqL.of upd_same, hv, ?_⟩
    exact q _ m m0 m1 (((S1.trans S2).trans S3).new np) (D3.new np)
end
end Far

namespace Far
open PySem PySem.Spec PyProof.Rows L2
/-! ### t[::-1], t a text -/
def revS (z : Str) : Str := ⟨z.cps.toList.reverse.toArray⟩
def tRevS (te : TE) : TE := fun σ H Q => te σ H fun x H1 => ∃ z, x = .str z ∧ z.length ≤ sizeLine ∧ Q (.str (revS z)) H1
theorem fm_congrS {α β : Type} {f g : α → Option β} : ∀ {l : List α}, (∀ x ∈ l, f x = g x) → l.filterMap f = l.filterMap g
  | [], _ => rfl
  | x :: r, h => by
    rw [List.filterMap_cons, List.filterMap_cons, h x (List.mem_cons_self ..), fm_congrS fun y hy => h y (List.mem_cons_of_mem _ hy)]
theorem back_allS {α : Type} : ∀ (l : List α), (List.range l.length).filterMap (fun m => l[l.length - 1 - m]?) = l.reverse := by
  intro l
  have h := PySem.W.krv_range l.length
  have e : (List.range l.length).filterMap (fun m => l[l.length - 1 - m]?) = ((List.range l.length).map fun k => l.length - 1 - k).filterMap (fun j => l[j]?) := by
    rw [List.filterMap_map]
    rfl
  rw [e, h, List.filterMap_reverse]
  congr 1
  have := PySem.W.krv_all l.toArray
  simpa using this
theorem revS_pick (z : Str) : (⟨((Builtin.Str.strSliceIndices none none (-1) z.length).filterMap (z.cps[·]?)).toArray⟩ : Str) = revS z := by
  unfold revS
  rw [picked_rev, List.filterMap_map, ← back_allS z.cps.toList]
  congr 2
  show _ = (List.range z.cps.toList.length).filterMap _
  rw [Array.length_toList]
  refine fm_congrS fun m hm => ?_
  rw [Array.getElem?_toList]
  rfl
theorem pe_revS {X : Cx} {e : Expr} {te : TE} {k : Nat} {p1 p2 p3 pos : Pos} (he : PE X e te) : PE X (.Subscript e (.Slice none none (some (.UnaryOp .USub (.Constant (.int 1) k p1) p2)) p3) pos) (tRevS te) := by
  refine ⟨fun pins s σ H Q I h => ?_⟩
  refine Subscript_ (thn (he.run pins s σ H _ I h) fun v s1 ⟨x, H1, I1, r1, q1⟩ => ?_)
  obtain ⟨z, ex, hz, q⟩ := q1
  subst ex
  obtain ⟨t, rfl⟩ := r1
  have hst : PO X (some (.UnaryOp .USub (.Constant (.int 1) k p1) p2)) (tPart (tUn (rU fun i => .int (-i)) (tC (.int 1)))) := po_some (pe_un un_neg pe_int)
  refine wpAny_Slice (thn (po_none.run pins s1 σ H1 (fun o H2 => o = none ∧ H2 = H1) I1 ⟨rfl, rfl⟩) fun vl s2 ⟨l, H2, I2, pl, el, e2⟩ => ?_)
  subst el e2
  refine thn (po_none.run pins s2 σ H2 (fun o H3 => o = none ∧ H3 = H2) I2 ⟨rfl, rfl⟩) fun vu s3 ⟨u, H3, I3, pu, eu, e3⟩ => ?_
  subst eu e3
  refine thn (hst.run pins s3 σ H3 (fun o H4 => o = some (-1) ∧ H4 = H3) I3 ⟨1, rfl, -1, rfl, rfl, rfl⟩) fun vs s4 ⟨o, H4, I4, ps, eo, e4⟩ => ?_
  subst eo e4
  have I5 : Inv X pins σ H4 { s4 with heap := s4.heap.push { cls := .type "slice", data := .fields #[vl, vu, vs] } } := I4.kept (t' := s4.toks) fun b ob q => Heap.get?_push_of_some _ q
  obtain ⟨l, rfl, hl⟩ := IsPart.raw pl
  obtain ⟨u, rfl, hu⟩ := IsPart.raw pu
  obtain ⟨y, rfl, hy⟩ := IsPart.raw ps
  show wpAny (model X.prog X.w) X.A (subscriptTail e (.Slice none none (some (.UnaryOp .USub (.Constant (.int 1) k p1) p2)) p3) (.str z t) (.ref s4.heap.objs.size)) (EP X pins σ Q) X.xe _
  refine tail_any (ops := [.str z t, .ref s4.heap.objs.size]) (typeIs_str _ _ _) (F.slot_str_getitem.lookup) ?_ (by with_unfolding_all rfl)
  have hl' : l = none := by cases l with
    | none => rfl
    | some _ => cases hl
  have hu' : u = none := by cases u with
    | none => rfl
    | some _ => cases hu
  obtain ⟨⟨y1, y2⟩, rfl⟩ : ∃ p, y = some p := by cases y with
    | none => cases hy
    | some p => exact ⟨p, rfl⟩
  have hy' : y1 = -1 := by
    have := Option.some.inj hy
    first | exact this | exact this.symm
  subst hl' hu' hy'
  refine wpAny_getItem_str_slice (l := none) (u := none) (st := some (-1, y2)) ⟨_, Heap.get?_push_size _ rfl, rfl, rfl⟩ rfl ?_
  show Made.post (if ((-1 : Int) == 1 && (Builtin.Str.strSliceIndices none none (-1) z.length).length == z.length) = true then Made.val (.str z t)
    else Made.str ⟨((Builtin.Str.strSliceIndices none none (-1) z.length).filterMap (z.cps[·]?)).toArray⟩) (EP X pins σ Q) _
  rw [if_neg (by simp), revS_pick]
  refine ⟨?_, .str _, H4, I5.tok _, ⟨_, rfl⟩, q⟩
  show z.cps.toList.reverse.toArray.size ≤ sizeLine
  rw [List.size_toArray, List.length_reverse, Array.length_toList]
  exact hz
end Far

namespace Far
open PySem PySem.Spec PyProof.Rows L2
open C8 (pss_cut tCut)
open SX (S)
/-! ### lists without an item twice -/
theorem nodup_sub_len {α : Type} [DecidableEq α] : ∀ (l m : List α), l.Nodup → (∀ x ∈ l, x ∈ m) → l.length ≤ m.length
  | [], _, _, _ => Nat.zero_le _
  | a :: r, m, h, hs => by
    obtain ⟨h1, h2⟩ := List.nodup_cons.mp h
    have ha : a ∈ m := hs a (List.mem_cons.mpr (.inl rfl))
    have ih := nodup_sub_len r (m.erase a) h2 fun x hx => by
      have ne : x ≠ a := fun e => h1 (e ▸ hx)
      exact (List.mem_erase_of_ne ne).mpr (hs x (List.mem_cons.mpr (.inr hx)))
    have hl := List.length_erase_of_mem ha
    have hp : 0 < m.length := List.length_pos_of_mem ha
    rw [List.length_cons]
    omega
theorem nd_snoc' {α : Type} {l : List α} {x : α} (h : l.Nodup) (hx : x ∉ l) : (l ++ [x]).Nodup := by
  rw [List.nodup_append]
  exact ⟨h, by simp, fun a ha b hb e => hx (by rw [← List.mem_singleton.mp hb, ← e]; exact ha)⟩

/-! ### texts as data -/
theorem strOk_S {l : List Nat} (h : NameOk l) : PyData.strOk (S l) = true := by
  show (l.toArray.all (· < 0x110000)) = true
  rw [← Array.all_toList, List.all_eq_true]
  intro c hc
  have := h.2.2 c hc
  exact decide_eq_true (by omega)
theorem inV_strs (l : List Nat) (ls : List (List Nat)) : inV (.str (S l)) ((ls.map S).map V.str) = decide (l ∈ ls) := by
  induction ls with
  | nil => rfl
  | cons a r ih =>
    show (S a == S l || inV (.str (S l)) ((r.map S).map V.str)) = _
    rw [ih, SX.S_beq_eq]
    by_cases e : a = l
    · subst e
      simp
    · have : l ≠ a := fun z => e z.symm
      simp [e, this]
theorem flat_strs (ls : List (List Nat)) : ((ls.map S).map V.str).all flatV = true := by
  induction ls with
  | nil => rfl
  | cons a r ih => exact ih
theorem strs_at {ls : List (List Nat)} {v : V} (h : v ∈ (ls.map S).map V.str) : ∃ l ∈ ls, v = .str (S l) := by
  obtain ⟨z, hz, rfl⟩ := List.mem_map.mp h
  obtain ⟨l, hl, rfl⟩ := List.mem_map.mp hz
  exact ⟨l, hl, rfl⟩
theorem dp_strs (K : PySem.W.Frag) (H : Hp) : ∀ ls : List (List Nat), DpAll K H ((ls.map S).map V.str) (ls.map fun l => PyData.str (S l))
  | [] => .nil
  | l :: r => .cons (.str _) (dp_strs K H r)
theorem lay_strs : ∀ {ls : List (List Nat)}, (∀ l ∈ ls, NameOk l) → PyData.canLayAll0 (ls.map fun l => PyData.str (S l)) = true
  | [], _ => rfl
  | l :: r, h => by
    show (PyData.strOk (S l) && PyData.canLayAll0 (r.map fun l => PyData.str (S l))) = true
    rw [strOk_S (h l (List.mem_cons.mpr (.inl rfl))), lay_strs fun x hx => h x (List.mem_cons.mpr (.inr hx))]
    rfl
theorem dep_strs : ∀ ls : List (List Nat), PyData.depthAll (ls.map fun l => PyData.str (S l)) = 0
  | [] => rfl
  | l :: r => by
    show max 0 (PyData.depthAll (r.map fun l => PyData.str (S l))) = 0
    rw [dep_strs r]
    rfl
theorem shaped_strs {ls : List (List Nat)} (h : ∀ l ∈ ls, NameOk l) : SeqAt.shaped (.list (ls.map fun l => PyData.str (S l))) = true := by
  show (PyData.canLayAll0 (ls.map fun l => PyData.str (S l)) && decide (PyData.depthAll (ls.map fun l => PyData.str (S l)) + 1 ≤ 64)) = true
  rw [lay_strs h, dep_strs]
  rfl

/-! ### names made otherwise -/
abbrev abc : Str := "abcdefghijklmnopqrstuvwxyz"
theorem abc_at : ∀ k : _root_.Fin 26, atI abc.cps.toList ((k.val : Nat) : Int) = some (97 + k.val) := by decide +kernel
theorem abc_ok : ∀ c ∈ abc.cps.toList, 97 ≤ c ∧ c ≤ 122 := by decide +kernel
theorem abc_len : abc.cps.toList.length = 26 := by decide +kernel
def cand (j : Nat) : List Nat := [97 + j / 26] ++ [97 + j % 26]
theorem cand_inj {i j : Nat} (h : cand i = cand j) : i = j := by
  unfold cand at h
  simp at h
  omega
theorem cand_ok {j : Nat} (hj : j < 600) : NameOk (cand j) := by
  refine ⟨by simp [cand], by simp [cand], fun c hc => ?_⟩
  unfold cand at hc
  simp at hc
  omega
/-- of the names tried so far all but the last are found already -/
structure Tried (ls : List (List Nat)) (t : Nat) (l : List Nat) : Prop where
  ok : NameOk l
  last : t ≠ 0 → l = cand (t - 1)
  old : ∀ j, j + 1 < t → cand j ∈ ls
theorem Tried.lt {ls : List (List Nat)} {t : Nat} {l : List Nat} (h : Tried ls t l) (hl : l ∈ ls) : t ≤ ls.length := by
  have sub : ∀ x ∈ (List.range t).map cand, x ∈ ls := fun x hx => by
    obtain ⟨j, hj, rfl⟩ := List.mem_map.mp hx
    have hj := List.mem_range.mp hj
    by_cases e : j + 1 < t
    · exact h.old j e
    · have e2 : j = t - 1 := by omega
      rw [e2, ← h.last (by omega)]
      exact hl
  have nd : ((List.range t).map cand).Nodup := by
    rw [List.Nodup, List.pairwise_map]
    exact (List.nodup_range (n := t)).imp fun ne e => ne (cand_inj e)
  have := nodup_sub_len _ ls nd sub
  rw [List.length_map, List.length_range] at this
  exact this
theorem Tried.next {ls : List (List Nat)} {t : Nat} {l : List Nat} (h : Tried ls t l) (hl : l ∈ ls) (h30 : ls.length < 100) : Tried ls (t + 1) (cand t) := by
  have hlt := h.lt hl
  refine ⟨cand_ok (by omega), fun _ => rfl, fun j hj => ?_⟩
  by_cases e : j + 1 < t
  · exact h.old j e
  · have e2 : j = t - 1 := by omega
    rw [e2, ← h.last (by omega)]
    exact hl
theorem revS_S (l : List Nat) : revS (S l) = S l.reverse := by
  show (⟨(l.toArray.toList.reverse).toArray⟩ : Str) = _
  rw [List.toList_toArray]
def NamesAt (H : Hp) (p : Addr) (ls : List (List Nat)) : Prop := H p = some (.lst ((ls.map S).map V.str))
end Far

namespace Far
open PySem PySem.Spec PyProof.Rows L2
open C8 (pss_cut tCut)
open SX (S)
abbrev s_law_name : Stmt := topS 15
abbrev N_law_name : List Str := ["seed", "names", "letters", "many", "name", "near", "at", "otherwise", "count", "k"]
theorem sc_law_name : FnScope N_law_name ["seed", "names"] (defScope s_law_name) := ⟨rfl, rfl, rfl, by decide +kernel, rfl, by decide +kernel, by decide +kernel⟩
section
variable {P : Program} {w : World} {K : PySem.W.Frag} {mg : Str → Option Value} {base : Heap}
def spName : Sp := fun vs H Q _ => ∃ (d a : Addr) (n : Nat) (ls : List (List Nat)), vs = [.ref d, .ref a] ∧ SeedAt H d n ∧ n < 80000 ∧ a ≠ d ∧ NamesAt H a ls ∧ ls.length < 100 ∧ (∀ l ∈ ls, NameOk l) ∧ ∀ (H' : Hp) (l : List Nat), NameOk l → l ∉ ls → SmX d H H' → SeedAt H' d (n + 20) → Q (.str (S l)) H'
theorem ok_name {f : Addr} {fd : FuncData} (F : Fun K "_law_name" "_law_name" s_law_name f fd) (T : TxtG mg) (C_law_draw : Cal P w K mg base 1 "_law_draw" spDraw) : FnOk P w K mg base CX0 2 f fd ["seed", "names"] spName := by
  refine F.ok sc_law_name (fun vs H Q E h => ?_) (fun cdv A outer s H vs Q E hr h => ?_)
  · obtain ⟨d, a, n, ls, rfl, _⟩ := h
    rfl
  · obtain ⟨d, a, n, ls, rfl, hD, hn, nad, hN, hl, ok, q⟩ := h
    refine ⟨_, (pss_cons (ps_set (i := 2) sc_law_name.nd rfl (.inr rfl) pe_str)
      (pss_cons (ps_set (i := 3) sc_law_name.nd rfl (.inl rfl) (pe_op op_add pe_int (pe_c C_law_draw hr (by decide) rfl (pa_cons (pv 0) (pa_cons (pe_ix ix_list (pe_lst (pa_cons pe_int (pa_cons pe_int (pa_cons pe_int pa_nil)))) (pe_c C_law_draw hr (by decide) rfl (pa_cons (pv 0) (pa_cons pe_int pa_nil))) (fun _ _ => rfl)) pa_nil)))))
      (pss_cons (ps_set (i := 4) sc_law_name.nd rfl (.inl rfl) (pe_join pe_str (pe_lc (own := [("k", 9)]) (g := gName 9) (tt := tYes) rfl sc_law_name.nd (pi_range1 (by rfl) T.range (pa_cons (pv 3) pa_nil)) (blkOk_by (N := N_law_name) (sc := defScope s_law_name) (by decide +kernel)) (fun _ _ _ _ _ => pg_name (i := 9) sc_law_name.nd rfl (Or.inl rfl)) (fun _ _ _ _ _ => pts_nil) (fun _ _ _ _ _ => (pe_ix ix_str (pv 2) (pe_c C_law_draw hr (by decide) rfl (pa_cons (pv 0) (pa_cons pe_int pa_nil))) (fun _ _ => rfl))))))
      (pss_cut (ps_if (PW.pt (pw_and (pt_cmpR (op_neD (hd_of hr (by decide))) (pv 1) (pe_lst pa_nil) (nomark _)) (pw_and1 (pt_cmpR op_eq (pe_c C_law_draw hr (by decide) rfl (pa_cons (pv 0) (pa_cons pe_int pa_nil))) pe_int (nomark _)))))
        (pss_cons (ps_set (i := 5) sc_law_name.nd rfl (.inl rfl) (pe_ix ix_list (pv 1) (pe_c C_law_draw hr (by decide) rfl (pa_cons (pv 0) (pa_cons (pe_callB call_len_seq (by rfl) T.len bt_len (pa_cons (pv 1) pa_nil)) pa_nil))) (fun _ _ => rfl)))
        (pss_cons (ps_set (i := 6) sc_law_name.nd rfl (.inl rfl) (pe_c C_law_draw hr (by decide) rfl (pa_cons (pv 0) (pa_cons (pe_callB call_len (by rfl) T.len bt_len (pa_cons (pv 5) pa_nil)) pa_nil))))
        (pss_cons (ps_set (i := 7) sc_law_name.nd rfl (.inl rfl) (pe_op op_add_str (pe_op op_add_str (pe_slice C8.sl_txt (pv 5) po_none (po_some (pv 6))) (pe_ix ix_str (pv 2) (pe_c C_law_draw hr (by decide) rfl (pa_cons (pv 0) (pa_cons pe_int pa_nil))) (fun _ _ => rfl))) (pe_slice C8.sl_txt (pv 5) (po_some (pe_op op_add (pv 6) pe_int)) po_none)))
        (pss_one (ps_set (i := 4) sc_law_name.nd rfl (.inl rfl) (pe_ix ix_list (pe_lst (pa_cons (pv 7) (pa_cons (pe_revS (pv 5)) (pa_cons (pe_slice C8.sl_txt (pe_op op_add_str (pv 5) (pv 4)) po_none (po_some pe_int)) pa_nil)))) (pe_c C_law_draw hr (by decide) rfl (pa_cons (pv 0) (pa_cons pe_int pa_nil))) (fun _ _ => rfl)))))))
        pss_nil)
      (pss_cons (ps_set (i := 8) sc_law_name.nd rfl (.inl rfl) pe_int)
      (pss_cut (ps_while PassesOwn.never (pt_cmpR op_in_seq (pv 4) (pv 1) rfl)
        (pss_cons (ps_set (i := 4) sc_law_name.nd rfl (.inl rfl) (pe_op op_add_str (pe_ix ix_str (pv 2) (pe_op op_fdiv (pv 8) pe_int) (fun _ _ => rfl)) (pe_ix ix_str (pv 2) (pe_op op_mod (pv 8) pe_int) (fun _ _ => rfl))))
        (pss_one (ps_set (i := 8) sc_law_name.nd rfl (.inl rfl) (pe_op op_add (pv 8) pe_int)))))
      (pss_one (ps_ret (pv 4))))))))), ?_⟩
    -- many
    refine ⟨_, rfl, (by show 3 ≤ sizeLine; decide), fun p np => ?_⟩
    have npd : p ≠ d := hD.nd np
    refine ⟨_, rfl, d, n, 3, rfl, hD.new np, by omega, by decide, by decide, fun H1 r r0 r1 S1 D1 => ?_⟩
    have hp : H1 p = some (.lst [.int 1, .int 2, .int 8]) := S1 p _ npd upd_same
    obtain ⟨v, hv, mv⟩ := atI_in (xs := [V.int 1, .int 2, .int 8]) r0 (by simpa using r1)
    have hs : ∃ sz : Int, v = .int sz ∧ 1 ≤ sz ∧ sz ≤ 8 := by
      simp only [List.mem_cons, List.not_mem_nil, or_false] at mv
      rcases mv with e | e | e <;> exact ⟨_, e, by omega, by omega⟩
    obtain ⟨sz, rfl, s1, s8⟩ := hs
    refine ⟨p, _, r, _, rfl, rfl, SqL.of hp, hv, ?_⟩
    have S01 : SmX d H H1 := fun b o nb hb => S1 b o nb (by rw [upd_ne (ne_of_none hb np)]; exact hb)
    refine ⟨d, n + 1, sz, rfl, D1, by omega, by omega, by omega, fun H2 r2 a0 a1 S2 D2 => ⟨_, _, rfl, rfl, ?_⟩⟩
    have S02 := S01.trans S2
    -- name
    refine ⟨⟨_, rfl⟩, _, rfl, 1 + r2, rfl, by omega, by omega, fun D nD => ?_⟩
    have nDd : D ≠ d := D2.nd nD
    refine lc_range (lo := 0) (n := (1 + r2).toNat) (fun i H' => ∃ cs : List Nat, cs.length = i ∧ (∀ c ∈ cs, 97 ≤ c ∧ c ≤ 122) ∧ H' D = some (.lst ((cs.map fun c => S [c]).map V.str)) ∧ SmX d H H' ∧ SeedAt H' d (n + 2 + i)) ⟨[], rfl, by simp, upd_same, S02.new nD, D2.new nD⟩ (fun i H' hi hP => ?_) (fun H' hP => ?_)
    · obtain ⟨cs, hlc, hc, hD', SM, DD⟩ := hP
      refine ⟨rfl, _, rfl, _, rfl, d, _, 26, rfl, DD, by omega, by decide, by decide, fun H4 r4 r40 r41 S4 D4 => ?_⟩
      obtain ⟨v, hv, mv⟩ := atI_in (xs := abc.cps.toList) r40 (by rw [abc_len]; exact r41)
      refine ⟨abc, r4, v, rfl, rfl, by decide, hv, ?_⟩
      refine ⟨_, S4 D _ nDd hD', by rw [List.length_map, List.length_map]; exact sz_lt (by omega), cs ++ [v], by simp [hlc], fun c hc' => ?_, ?_, (SM.trans S4).put ?_, ?_⟩
      · rcases List.mem_append.mp hc' with z | z
        · exact hc c z
        · rw [List.mem_singleton.mp z]
          exact abc_ok v mv
      · rw [upd_same, List.map_append, List.map_append]
        rfl
      · exact SmX.free S02 nD nDd
      · exact D4.put nDd
    · obtain ⟨cs, hlc, hc, hD', SM, DD⟩ := hP
      refine ⟨_, D, cs.map (fun c => S [c]), rfl, rfl, .inl (SqL.of hD'), ?_, ?_⟩
      · rw [one_sum']
        have : ((("" : Str)).length) = 0 := rfl
        rw [this, List.length_map]
        omega
      · have e : Txt.join ("" : Str) (cs.map fun c => S [c]) = S cs := by
          have := SX.join_S [] (cs.map fun c => [c])
          rw [List.map_map] at this
          rw [join_none, flat_one] at this
          exact this
        rw [e]
        have cok : NameOk cs := ⟨by omega, by omega, hc⟩
        have DD := DD.mono (m := n + 10) (by omega)
        clear hlc hD'
        -- the if
        refine ⟨fun σ1 H1 => ∃ (l : List Nat) (x5 x6 x7 : Option V), σ1 = [some (.ref d), some (.ref a), some (.str abc), some (.int (1 + r2)), some (.str (S l)), x5, x6, x7, none, none] ∧ NameOk l ∧ SmX d H H1 ∧ SeedAt H1 d (n + 20), ?_, fun σ1 H1 hM => ?_⟩
        · have hN1 : NamesAt H' a ls := SM a _ nad hN
          refine ⟨_, rfl, Nat.zero_le _, fun p2 np2 => ?_⟩
          have hN2 : NamesAt (upd H' p2 (.lst [])) a ls := by
            unfold NamesAt
            rw [upd_ne (ne_of_none hN1 np2)]
            exact hN1
          have D2 := DD.new (o := .lst []) np2
          have SM2 : SmX d H (upd H' p2 (.lst [])) := SM.new np2
          refine ⟨_, _, .lst (SqL.of hN2) (dp_strs _ _ ls), .lst (SqL.of upd_same) .nil, shaped_strs ok, rfl, _, rfl, ?_⟩
          refine ite2 (fun e1 => ?_) (fun e1 => ?_)
          · have pos : 0 < ls.length := by
              cases ls with
              | nil => exact absurd e1 (by decide)
              | cons a r => exact Nat.succ_pos _
            refine ⟨_, rfl, d, _, 3, rfl, D2, by omega, by decide, by decide, fun H3 r r0 r1 S3 D3 => ?_⟩
            have hN3 : NamesAt H3 a ls := S3 a _ nad hN2
            have SM3 : SmX d H H3 := SM2.trans S3
            refine ⟨rfl, _, rfl, ite2 (fun e2 => ?_) (fun e2 => ?_)⟩
            · -- near
              refine ⟨_, rfl, _, rfl, _, rfl, a, _, rfl, .inl (SqL.of hN3), d, _, _, rfl, D3, by omega, ?_, ?_, fun H4 r4 r40 r41 S4 D4 => ?_⟩
              · rw [List.length_map, List.length_map]
                omega
              · rw [List.length_map, List.length_map]
                omega
              have hN4 : NamesAt H4 a ls := S4 a _ nad hN3
              obtain ⟨v, hv, mv⟩ := atI_in r40 r41
              obtain ⟨l2, hl2, rfl⟩ := strs_at mv
              have ok2 := ok l2 hl2
              have h8 := ok2.2.1
              have h1 := ok2.1
              have c8 := cok.2.1
              refine ⟨a, _, r4, _, rfl, rfl, SqL.of hN4, hv, ?_⟩
              -- at
              refine ⟨_, rfl, _, rfl, .str (S l2), l2.length, rfl, ⟨by rw [SX.S_len]; exact sz_le (by omega), (SX.S_len _).symm⟩, d, _, _, rfl, D4, by omega, by omega, by omega, fun H5 r5 r50 r51 S5 D5 => ?_⟩
              -- otherwise
              refine ⟨_, rfl, _, rfl, r5, rfl, S l2, rfl, by rw [SX.S_len]; exact sz_le (by omega), ?_⟩
              refine ⟨_, rfl, _, rfl, d, _, 26, rfl, D5, by omega, by decide, by decide, fun H6 r6 r60 r61 S6 D6 => ?_⟩
              obtain ⟨sg, hsg, msg⟩ := atI_in (xs := abc.cps.toList) r60 (by rw [abc_len]; exact r61)
              have oks := abc_ok sg msg
              refine ⟨abc, r6, sg, rfl, rfl, by decide, hsg, ?_⟩
              have SM6 : SmX d H H6 := ((SM3.trans S4).trans S5).trans S6
              refine ⟨S (l2.take r5.toNat), S [sg], congrArg V.str (SX.slice_to r50), rfl, by rw [SX.S_len, SX.S_len, List.length_take, List.length_singleton]; exact sz_le (by omega), ?_⟩
              refine ⟨_, rfl, _, rfl, r5, 1, rfl, rfl, r5 + 1, rfl, S l2, rfl, by rw [SX.S_len]; exact sz_le (by omega), S (l2.take r5.toNat ++ [sg]), S (l2.drop (r5 + 1).toNat), congrArg V.str (SX.S_cat _ _), congrArg V.str (SX.slice_from (by omega)), by rw [SX.S_len, SX.S_len, List.length_append, List.length_take, List.length_drop, List.length_singleton]; exact sz_le (by omega), ?_⟩
              -- the three
              refine ⟨_, rfl, _, rfl, S l2, rfl, by rw [SX.S_len]; exact sz_le (by omega), ?_⟩
              refine ⟨_, rfl, _, rfl, S l2, S cs, rfl, rfl, by rw [SX.S_len, SX.S_len]; exact sz_le (by omega), 8, rfl, S (l2 ++ cs), congrArg V.str (SX.S_cat _ _), by rw [SX.S_len, List.length_append]; exact sz_le (by omega), by show 3 ≤ sizeLine; decide, fun p7 np7 => ?_⟩
              have np7d := D6.nd np7
              have D6' := D6.new (o := .lst [V.str (S (l2.take r5.toNat ++ [sg]) ++ S (l2.drop (r5 + 1).toNat)), .str (revS (S l2)), .str (Txt.slice (S (l2 ++ cs)) none (some 8))]) np7
              refine ⟨_, rfl, d, _, 3, rfl, D6', by omega, by decide, by decide, fun H7 r7 r70 r71 S7 D7 => ?_⟩
              have h7 := S7 p7 _ np7d upd_same
              have SM7 : SmX d H H7 := (SM6.new np7).trans S7
              obtain ⟨v, hv, mv⟩ := atI_in (xs := [V.str (S (l2.take r5.toNat ++ [sg]) ++ S (l2.drop (r5 + 1).toNat)), .str (revS (S l2)), .str (Txt.slice (S (l2 ++ cs)) none (some 8))]) r70 (by simpa using r71)
              have hs : ∃ l3 : List Nat, v = .str (S l3) ∧ NameOk l3 := by
                simp only [List.mem_cons, List.not_mem_nil, or_false] at mv
                rcases mv with e | e | e
                · refine ⟨l2.take r5.toNat ++ [sg] ++ l2.drop (r5 + 1).toNat, by rw [e, SX.S_cat], ?_, ?_, fun x hx => ?_⟩
                  · simp
                    omega
                  · simp
                    omega
                  · rcases List.mem_append.mp hx with z | z
                    · rcases List.mem_append.mp z with z | z
                      · exact ok2.2.2 x (List.mem_of_mem_take z)
                      · rw [List.mem_singleton.mp z]
                        exact oks
                    · exact ok2.2.2 x (List.mem_of_mem_drop z)
                · refine ⟨l2.reverse, by rw [e, revS_S], ?_, ?_, fun x hx => ok2.2.2 x (List.mem_reverse.mp hx)⟩
                  · rw [List.length_reverse]
                    omega
                  · rw [List.length_reverse]
                    omega
                · refine ⟨(l2 ++ cs).take 8, by rw [e, SX.slice_to (by decide)]; rfl, ?_, ?_, fun x hx => ?_⟩
                  · rw [List.length_take, List.length_append]
                    omega
                  · rw [List.length_take]
                    omega
                  · rcases List.mem_append.mp (List.mem_of_mem_take hx) with z | z
                    · exact ok2.2.2 x z
                    · exact hc x z
              obtain ⟨l3, rfl, ok3⟩ := hs
              refine ⟨p7, _, r7, _, rfl, rfl, SqL.of h7, hv, ?_⟩
              exact ⟨l3, _, _, _, rfl, ok3, SM7, D7.mono (by omega)⟩
            · exact ⟨cs, _, _, _, rfl, cok, SM3, D3.mono (by omega)⟩
          · exact ⟨cs, _, _, _, rfl, cok, SM2, D2.mono (by omega)⟩
        · -- the loop
          obtain ⟨l, x5, x6, x7, rfl, lok, SM1, DD1⟩ := hM
          have hN1 : NamesAt H1 a ls := SM1 a _ nad hN
          refine ⟨fun σ2 H2 => ∃ (l : List Nat) (x8 : Option V), σ2 = [some (.ref d), some (.ref a), some (.str abc), some (.int (1 + r2)), some (.str (S l)), x5, x6, x7, x8, none] ∧ NameOk l ∧ l ∉ ls ∧ H2 = H1, ?_, fun σ2 H2 hM => ?_⟩
          · refine ⟨fun m σ2 H2 => ∃ (l : List Nat) (t : Nat), σ2 = [some (.ref d), some (.ref a), some (.str abc), some (.int (1 + r2)), some (.str (S l)), x5, x6, x7, some (.int t), none] ∧ H2 = H1 ∧ Tried ls t l ∧ t + m = 200, ⟨200, l, 0, rfl, rfl, ⟨lok, fun z => absurd rfl z, fun j hj => absurd hj (by omega)⟩, rfl⟩, ?_⟩
            rintro m' σ2 H4 ⟨l, t, rfl, rfl, tr, em⟩
            refine ⟨_, rfl, _, rfl, a, _, rfl, .inl (SqL.of hN1), rfl, flat_strs ls, _, rfl, ?_⟩
            rw [inV_strs]
            refine ite2 (fun e2 => ?_) (fun e2 => ?_)
            · have hin : l ∈ ls := of_decide_eq_true e2
              have tl := tr.lt hin
              have nx := tr.next hin (by omega)
              refine ⟨fun σ' H'' => ∃ (l : List Nat) (t' : Nat), σ' = [some (.ref d), some (.ref a), some (.str abc), some (.int (1 + r2)), some (.str (S l)), x5, x6, x7, some (.int t'), none] ∧ H'' = H4 ∧ Tried ls t' l ∧ t' = t + 1, ?_, ?_⟩
              · rintro σ' H'' ⟨l', t', e1, e2', e3, e4⟩
                exact ⟨m' - 1, by omega, l', t', e1, e2', e3, by omega⟩
              have et : (t : Int) / 26 = (((t / 26 : Nat)) : Int) := by omega
              have em' : (t : Int) % 26 = (((t % 26 : Nat)) : Int) := by omega
              have a1 : atI abc.cps.toList ((t : Int) / 26) = some (97 + t / 26) := by
                rw [et]
                exact abc_at ⟨t / 26, by omega⟩
              have a2 : atI abc.cps.toList ((t : Int) % 26) = some (97 + t % 26) := by
                rw [em']
                exact abc_at ⟨t % 26, by omega⟩
              refine ⟨_, rfl, _, rfl, _, _, rfl, rfl, ⟨by decide, by decide⟩, abc, (t : Int) / 26, _, rfl, rfl, by decide, a1, ?_⟩
              refine ⟨_, rfl, _, rfl, _, _, rfl, rfl, (by show (0 : Int) < _; decide), abc, (t : Int) % 26, _, rfl, rfl, by decide, a2, ?_⟩
              refine ⟨S [97 + t / 26], S [97 + t % 26], rfl, rfl, by rw [SX.S_len, SX.S_len]; exact sz_le (by simp), ?_⟩
              refine ⟨_, rfl, _, _, rfl, rfl, ?_⟩
              refine ⟨cand t, t + 1, ?_, rfl, nx, rfl⟩
              show [some (V.ref d), some (V.ref a), some (V.str abc), some (V.int (1 + r2)), some (V.str (S [97 + t / 26] ++ S [97 + t % 26])), x5, x6, x7, some (V.int ((t : Int) + 1)), none] = _
              rw [SX.S_cat]
              rfl
            · exact ⟨l, _, rfl, tr.ok, fun z => e2 (decide_eq_true z), rfl⟩
          · obtain ⟨l, x8, rfl, lok, nin, rfl⟩ := hM
            exact ⟨_, rfl, q _ l lok nin SM1 DD1⟩
end
end Far

namespace Far
open PySem PySem.Spec PyProof.Rows L2
/-! ### xs[::e], xs a list, e tells 1 or -1 -/
def tStepL (K : PySem.W.Frag) (te ts : TE) : TE := fun σ H Q => te σ H fun x H1 => tPart ts σ H1 fun o H2 => ∃ a xs i, x = .ref a ∧ o = some i ∧ (i = 1 ∨ i = -1) ∧ SqL K H2 a xs ∧ ∀ p, H2 p = none → Q (.ref p) (upd H2 p (.lst (if i = 1 then xs else xs.reverse)))
theorem range_some {α : Type} : ∀ (l : List α), (List.range l.length).filterMap (fun m => l[m]?) = l
  | [] => rfl
  | a :: r => by
    rw [List.length_cons, List.range_succ_eq_map, List.filterMap_cons]
    show a :: ((List.range r.length).map Nat.succ).filterMap _ = _
    rw [List.filterMap_map]
    congr 1
    exact range_some r
theorem pick_one (items : Array Value) : slicePick items none none (some 1) = items := by
  have h := slicePick_cut items.toList none none
  have e : slicePick items none none (some 1) = slicePick items none none none := by rfl
  rw [e]
  rw [Array.toArray_toList] at h
  rw [h]
  have e1 : HT.sIx items.toList.length items.toList.length none = items.toList.length := rfl
  have e2 : HT.sIx items.toList.length 0 none = 0 := rfl
  rw [e1, e2, List.drop_zero, Nat.sub_zero, List.take_length, Array.toArray_toList]
theorem pe_stepL {X : Cx} {e st : Expr} {te ts : TE} {p3 pos : Pos} (he : PE X e te) (hs : PE X st ts) : PE X (.Subscript e (.Slice none none (some st) p3) pos) (tStepL X.K te ts) := by
  refine ⟨fun pins s σ H Q I h => ?_⟩
  refine Subscript_ (thn (he.run pins s σ H _ I h) fun v s1 ⟨x, H1, I1, r1, q1⟩ => ?_)
  have hst : PO X (some st) (tPart ts) := po_some hs
  refine wpAny_Slice (thn (po_none.run pins s1 σ H1 (fun o H2 => o = none ∧ H2 = H1) I1 ⟨rfl, rfl⟩) fun vl s2 ⟨l, H2, I2, pl, el, e2⟩ => ?_)
  subst el e2
  refine thn (po_none.run pins s2 σ H2 (fun o H3 => o = none ∧ H3 = H2) I2 ⟨rfl, rfl⟩) fun vu s3 ⟨u, H3, I3, pu, eu, e3⟩ => ?_
  subst eu e3
  refine thn (hst.run pins s3 σ H3 _ I3 q1) fun vs s4 ⟨o, H4, I4, ps, q2⟩ => ?_
  obtain ⟨a, xs, i, ex, eo, hi, hx, q⟩ := q2
  subst ex eo
  cases r1
  have I5 : Inv X pins σ H4 { s4 with heap := s4.heap.push { cls := .type "slice", data := .fields #[vl, vu, vs] } } := I4.kept (t' := s4.toks) fun b ob q => Heap.get?_push_of_some _ q
  obtain ⟨its, r, ht, hz⟩ := I5.list hx
  have hlen := r.length
  show wpAny (model X.prog X.w) X.A (subscriptTail e (.Slice none none (some st) p3) (.ref a) (.ref s4.heap.objs.size)) (EP X pins σ Q) X.xe { s4 with heap := s4.heap.push { cls := .type "slice", data := .fields #[vl, vu, vs] } }
  refine tail_any (ops := [.ref a, .ref s4.heap.objs.size]) ht.isList.typeIs (PySem.slot_list_getitem.lookup) ?_ (by with_unfolding_all rfl)
  refine wpAny_getItem_list_slice ht.isList (Heap.IsSliceOf.new _ vl vu vs) pl pu ps (by rcases hi with z | z <;> rw [z] <;> decide) ?_ (by rw [List.size_toArray]; omega)
  have q := q _ (I5.hok.fresh (Nat.le_refl _))
  rcases hi with z | z
  · subst z
    rw [if_pos rfl] at q
    rw [pick_one]
    refine ⟨.ref _, _, I5.laid (t' := s4.toks) (o := .lst xs) (fun b ob q => Heap.get?_push_of_some _ q) (Nat.le_refl _) ?_, rfl, q⟩
    exact ⟨hz, _, 0, r, Heap.get?_push_size _ rfl⟩
  · subst z
    rw [if_neg (by decide)] at q
    rw [PySem.W.krv_pick]
    refine ⟨.ref _, _, I5.laid (t' := s4.toks) (o := .lst xs.reverse) (fun b ob q => Heap.get?_push_of_some _ q) (Nat.le_refl _) ?_, rfl, q⟩
    exact ⟨by rw [List.length_reverse]; exact hz, _, 0, r.reverse, Heap.get?_push_size _ rfl⟩
end Far

namespace Far
open PySem PySem.Spec PyProof.Rows L2
open SX (S)
abbrev Nm := List Nat
abbrev Tie := Nm × Nm × Int
/-- places in an order in which each has one tie to those ahead; the ties in that order -/
inductive Grown : List Nm → List Tie → Prop
  | one (a : Nm) : Grown [a] []
  | leaf {os : List Nm} {es : List Tie} {a b : Nm} {k : Int} {e : Tie} : Grown os es → a ∈ os → b ∉ os → e = (a, b, k) ∨ e = (b, a, k) → 1 ≤ k → k ≤ 1000000 → Grown (os ++ [b]) (es ++ [e])
def IsTree (pl : List Nm) (ts : List Tie) : Prop := ∃ os es, Grown os es ∧ pl.Perm os ∧ ts.Perm es
theorem Grown.nodup {os : List Nm} {es : List Tie} (h : Grown os es) : os.Nodup := by
  induction h with
  | one a => simp
  | leaf _ _ hb _ _ _ ih => exact nd_snoc' ih hb
theorem Grown.len {os : List Nm} {es : List Tie} (h : Grown os es) : os.length = es.length + 1 := by
  induction h with
  | one a => rfl
  | leaf _ _ _ _ _ _ ih => rw [List.length_append, List.length_append, ih]; rfl
theorem Grown.ties {os : List Nm} {es : List Tie} (h : Grown os es) : ∀ e ∈ es, e.1 ∈ os ∧ e.2.1 ∈ os ∧ 1 ≤ e.2.2 ∧ e.2.2 ≤ 1000000 := by
  induction h with
  | one a => simp
  | leaf h1 ha hb he k1 k2 ih =>
    intro e hm
    rcases List.mem_append.mp hm with z | z
    · obtain ⟨a1, a2, a3⟩ := ih e z
      exact ⟨List.mem_append_left _ a1, List.mem_append_left _ a2, a3⟩
    · rw [List.mem_singleton.mp z]
      rcases he with e | e <;> rw [e] <;> simp [ha, k1, k2]
theorem IsTree.nodup {pl : List Nm} {ts : List Tie} (h : IsTree pl ts) : pl.Nodup := by
  obtain ⟨os, es, g, p, _⟩ := h
  exact p.nodup_iff.mpr g.nodup
theorem IsTree.len {pl : List Nm} {ts : List Tie} (h : IsTree pl ts) : pl.length = ts.length + 1 := by
  obtain ⟨os, es, g, p, q⟩ := h
  rw [p.length_eq, q.length_eq]
  exact g.len
theorem IsTree.ties {pl : List Nm} {ts : List Tie} (h : IsTree pl ts) : ∀ e ∈ ts, e.1 ∈ pl ∧ e.2.1 ∈ pl ∧ 1 ≤ e.2.2 ∧ e.2.2 ≤ 1000000 := by
  obtain ⟨os, es, g, p, q⟩ := h
  intro e he
  obtain ⟨a, b, c⟩ := g.ties e (q.mem_iff.mp he)
  exact ⟨p.mem_iff.mpr a, p.mem_iff.mpr b, c⟩

/-! ### as data -/
def tieD (t : Tie) : PyData := .tuple [.str (S t.1), .str (S t.2.1), .int t.2.2]
def strD (l : Nm) : PyData := .str (S l)
def treeD (pl : List Nm) (ts : List Tie) : PyData := .tuple [.tuple (pl.map strD), .tuple (ts.map tieD)]
/-- tuples stand as they stood -/
structure TK (H H' : Hp) : Prop where
  tup : ∀ b xs, H b = some (.tup xs) → H' b = some (.tup xs)
  frz : ∀ b o xs, H b = some (.frz o (.tup xs)) → H' b = some (.frz o (.tup xs))
theorem TK.refl (H : Hp) : TK H H := ⟨fun _ _ h => h, fun _ _ _ h => h⟩
theorem TK.trans {H H1 H2 : Hp} (a : TK H H1) (b : TK H1 H2) : TK H H2 := ⟨fun x o h => b.tup x o (a.tup x o h), fun x o u h => b.frz x o u (a.frz x o u h)⟩
theorem TK.of {H H' : Hp} (a : Same H H') : TK H H' := ⟨fun x _ h => a x _ h, fun x _ _ h => a x _ h⟩
theorem TK.new {H : Hp} {p : Addr} {o : HO} (n : H p = none) : TK H (upd H p o) :=
  ⟨fun b xs h => by rw [upd_ne (ne_of_none h n)]; exact h, fun b u xs h => by rw [upd_ne (ne_of_none h n)]; exact h⟩
theorem TK.mut {H : Hp} {p : Addr} {o : HO} {xs : List V} (n : H p = some (.lst xs)) : TK H (upd H p o) :=
  ⟨fun b ys h => by rw [upd_ne (ne_of h n (by intro z; cases z))]; exact h, fun b u ys h => by rw [upd_ne (ne_of h n (by intro z; cases z))]; exact h⟩
theorem SmX.tk {d : Addr} {H H' : Hp} {xs : List V} (s : SmX d H H') (n : H d = some (.lst xs)) : TK H H' :=
  ⟨fun b ys h => s b _ (ne_of h n (by intro z; cases z)) h, fun b u ys h => s b _ (ne_of h n (by intro z; cases z)) h⟩
theorem DeckAt.lst {H : Hp} {d c : Addr} {n : Nat} (h : DeckAt H d c n) : ∃ xs, H d = some (.lst xs) := by
  obtain ⟨_, _, _, _, _, h1, _⟩ := h
  exact ⟨_, h1⟩
theorem DeckAt.tk {H H' : Hp} {d c : Addr} {n : Nat} (h : DeckAt H d c n) (s : SmX d H H') : TK H H' := by
  obtain ⟨xs, e⟩ := h.lst
  exact s.tk e
mutual
/-- a value that never changes: none, truths, numbers, texts, tuples of such -/
inductive Dt (H : Hp) : V → PyData → Prop
  | non : Dt H .non .none
  | bl (b : Bool) : Dt H (.bl b) (.bool b)
  | int (i : Int) : Dt H (.int i) (.int i)
  | str (x : Str) : Dt H (.str x) (.str x)
  | tup {a : Addr} {xs : List V} {ds : List PyData} : H a = some (.tup xs) → DtAll H xs ds → Dt H (.ref a) (.tuple ds)
  /-- a tuple of texts that is known to have no dict of its own -/
  | tupZ {a : Addr} {pl : List Nm} {ds : List PyData} {o : Obj} : ds = pl.map strD → pl ≠ [] → o.dict = none → H a = some (.frz o (.tup ((pl.map S).map V.str))) → Dt H (.ref a) (.tuple ds)
inductive DtAll (H : Hp) : List V → List PyData → Prop
  | nil : DtAll H [] []
  | cons {v : V} {vs : List V} {d : PyData} {ds : List PyData} : Dt H v d → DtAll H vs ds → DtAll H (v :: vs) (d :: ds)
end
mutual
theorem Dt.keep {H H' : Hp} (t : TK H H') : ∀ {v : V} {d : PyData}, Dt H v d → Dt H' v d
  | _, _, .non => .non
  | _, _, .bl b => .bl b
  | _, _, .int i => .int i
  | _, _, .str x => .str x
  | _, _, .tup a b => .tup (t.tup _ _ a) (DtAll.keep t b)
  | _, _, .tupZ e n d a => .tupZ e n d (t.frz _ _ _ a)
theorem DtAll.keep {H H' : Hp} (t : TK H H') : ∀ {vs : List V} {ds : List PyData}, DtAll H vs ds → DtAll H' vs ds
  | _, _, .nil => .nil
  | _, _, .cons a b => .cons (Dt.keep t a) (DtAll.keep t b)
end
theorem dpa_strs {K : PySem.W.Frag} (H : Hp) : ∀ ls : List Nm, DpAll K H ((ls.map S).map V.str) (ls.map strD)
  | [] => .nil
  | _ :: r => .cons (.str _) (dpa_strs H r)
mutual
theorem Dt.dp {K : PySem.W.Frag} {H : Hp} : ∀ {v : V} {d : PyData}, Dt H v d → Dp K H v d
  | _, _, .non => .non
  | _, _, .bl b => .bl b
  | _, _, .int i => .int i
  | _, _, .str x => .str x
  | _, _, .tup a b => .tup (.inl (.inl a)) (DtAll.dp b)
  | _, _, .tupZ (pl := pl) (o := o) e _ _ a => e ▸ .tup (.inl (.inr ⟨o, a⟩)) (dpa_strs H pl)
theorem DtAll.dp {K : PySem.W.Frag} {H : Hp} : ∀ {vs : List V} {ds : List PyData}, DtAll H vs ds → DpAll K H vs ds
  | _, _, .nil => .nil
  | _, _, .cons a b => .cons (Dt.dp a) (DtAll.dp b)
end
theorem DtAll.len {H : Hp} : ∀ {vs : List V} {ds : List PyData}, DtAll H vs ds → vs.length = ds.length
  | _, _, .nil => rfl
  | _, _, .cons _ t => congrArg (· + 1) (DtAll.len t)
theorem DtAll.app {H : Hp} : ∀ {vs ws : List V} {ds es : List PyData}, DtAll H vs ds → DtAll H ws es → DtAll H (vs ++ ws) (ds ++ es)
  | _, _, _, _, .nil, h => h
  | _, _, _, _, .cons a t, h => .cons a (DtAll.app t h)
theorem DtAll.get {H : Hp} : ∀ {vs : List V} {ds : List PyData} {i : Nat} {v : V}, DtAll H vs ds → vs[i]? = some v → ∃ d, ds[i]? = some d ∧ Dt H v d
  | _, _, _, _, .nil, e => by simp at e
  | _, _, 0, _, .cons a _, e => by
    simp at e
    subst e
    exact ⟨_, rfl, a⟩
  | _, _, i + 1, _, .cons _ t, e => by
    obtain ⟨d, h1, h2⟩ := DtAll.get (i := i) t (by simpa using e)
    exact ⟨d, by simpa using h1, h2⟩
theorem DtAll.del {H : Hp} : ∀ {vs : List V} {ds : List PyData} (i : Nat), DtAll H vs ds → DtAll H (vs.eraseIdx i) (ds.eraseIdx i)
  | _, _, _, .nil => .nil
  | _, _, 0, .cons _ t => t
  | _, _, i + 1, .cons a t => .cons a (DtAll.del i t)
theorem DtAll.strs {H : Hp} : ∀ {ls : List Nm} {vs : List V}, DtAll H vs (ls.map strD) → vs = (ls.map S).map V.str
  | [], _, .nil => rfl
  | l :: r, _, .cons (.str _) t => by
    rw [DtAll.strs (ls := r) t]
    rfl
theorem dt_strs (H : Hp) : ∀ ls : List Nm, DtAll H ((ls.map S).map V.str) (ls.map strD)
  | [] => .nil
  | _ :: r => .cons (.str _) (dt_strs H r)
theorem perm_erase {α : Type} : ∀ {l : List α} {k : Nat} {x : α}, l[k]? = some x → (x :: l.eraseIdx k).Perm l
  | [], _, _, e => by simp at e
  | a :: r, 0, x, e => by
    simp at e
    subst e
    exact .refl _
  | a :: r, k + 1, x, e => by
    have ih := perm_erase (l := r) (k := k) (x := x) (by simpa using e)
    show (x :: a :: r.eraseIdx k).Perm (a :: r)
    exact (List.Perm.swap a x _).trans (ih.cons a)
theorem perm_pick {α : Type} {l1 l2 m : List α} {x : α} {k : Nat} (h : (l1 ++ l2).Perm m) (e : l2[k]? = some x) : ((l1 ++ [x]) ++ l2.eraseIdx k).Perm m := by
  rw [List.append_assoc]
  exact ((List.Perm.refl l1).append (perm_erase e)).trans h
theorem map_erase {α β : Type} (f : α → β) : ∀ (l : List α) (k : Nat), (l.map f).eraseIdx k = (l.eraseIdx k).map f
  | [], _ => rfl
  | _ :: _, 0 => rfl
  | a :: r, k + 1 => congrArg (f a :: ·) (map_erase f r k)
/-- a tuple of texts: of this heap, or one known through and through -/
def TupAt (H : Hp) (a : Addr) (xs : List V) : Prop := H a = some (.tup xs) ∨ ∃ o : Obj, o.dict = none ∧ H a = some (.frz o (.tup xs))
theorem TupAt.sq {K : PySem.W.Frag} {H : Hp} {a : Addr} {xs : List V} (h : TupAt H a xs) : SqT K H a xs := h.elim (fun h => .inl (.inl h)) fun ⟨o, _, h⟩ => .inl (.inr ⟨o, h⟩)
theorem TupAt.ne {H : Hp} {a p : Addr} {xs : List V} (h : TupAt H a xs) (n : H p = none) : a ≠ p := h.elim (fun h => ne_of_none h n) fun ⟨_, _, h⟩ => ne_of_none h n
theorem TupAt.same {H H' : Hp} {a : Addr} {xs : List V} (h : TupAt H a xs) (s : Same H H') : TupAt H' a xs := h.elim (fun h => .inl (s _ _ h)) fun ⟨o, d, h⟩ => .inr ⟨o, d, s _ _ h⟩
theorem TupAt.upd {H : Hp} {a p : Addr} {xs : List V} {o : HO} (h : TupAt H a xs) (n : H p = none) : TupAt (L2.upd H p o) a xs := h.elim (fun q => .inl (by rw [upd_ne (ne_of_none q n)]; exact q)) fun ⟨u, d, q⟩ => .inr ⟨u, d, by rw [upd_ne (ne_of_none q n)]; exact q⟩
theorem TupAt.updN {H : Hp} {a p : Addr} {xs : List V} {o : HO} (h : TupAt H a xs) (n : a ≠ p) : TupAt (L2.upd H p o) a xs := h.elim (fun q => .inl (by rw [upd_ne n]; exact q)) fun ⟨u, d, q⟩ => .inr ⟨u, d, by rw [upd_ne n]; exact q⟩
end Far

namespace Far
open PySem PySem.Spec PyProof.Rows L2
open C8 (pss_cut tCut)
open SX (S)
abbrev s_law_tree : Stmt := topS 17
abbrev N_law_tree : List Str := ["seed", "most", "many", "shape", "kind", "names", "ties", "k", "order", "near", "at", "pair"]
theorem sc_law_tree : FnScope N_law_tree ["seed", "most"] (defScope s_law_tree) := ⟨rfl, rfl, rfl, by decide +kernel, rfl, by decide +kernel, by decide +kernel⟩
def iV (j : Nat) : V := .int j
theorem rgV_nat (n : Nat) : rgV 0 (n : Int) = (List.range n).map iV := by
  unfold rgV
  rw [show ((n : Int) - 0).toNat = n by omega]
  refine List.map_congr_left fun i _ => ?_
  show V.int (0 + (i : Int)) = V.int i
  rw [Int.zero_add]
theorem getD_range : ∀ ls : List Nm, (List.range ls.length).map (fun j => ls.getD j []) = ls
  | [] => rfl
  | a :: r => by
    rw [List.length_cons, List.range_succ_eq_map, List.map_cons, List.map_map]
    congr 1
    exact getD_range r
/-- the names in the order told -/
def inOrd (ls : List Nm) (js : List Nat) : List Nm := js.map fun j => ls.getD j []
theorem inOrd_perm {ls : List Nm} {js : List Nat} (h : js.Perm (List.range ls.length)) : (inOrd ls js).Perm ls := by
  have := h.map fun j => ls.getD j []
  rwa [getD_range] at this
theorem inOrd_at {ls : List Nm} {js : List Nat} (h : js.Perm (List.range ls.length)) {a : Nat} (ha : a < ls.length) : ∃ (j : Nat) (x : Nm), (js.map iV)[a]? = some (.int j) ∧ ((ls.map S).map V.str)[j]? = some (.str (S x)) ∧ (inOrd ls js)[a]? = some x := by
  have hl : js.length = ls.length := by rw [h.length_eq, List.length_range]
  have h1 : js[a]? = some (js[a]'(by omega)) := List.getElem?_eq_getElem (by omega)
  generalize js[a]'(by omega) = j at h1
  have hj : j < ls.length := List.mem_range.mp (h.mem_iff.mp (List.mem_of_getElem? h1))
  refine ⟨j, ls[j], by rw [List.getElem?_map, h1]; rfl, by rw [List.getElem?_map, List.getElem?_map, List.getElem?_eq_getElem hj]; rfl, ?_⟩
  unfold inOrd
  rw [List.getElem?_map, h1]
  show some (ls.getD j []) = _
  simp [List.getD, hj]
theorem perm_insert {α : Type} {l m : List α} {x : α} (k : Nat) (h : l.Perm m) : (l.take k ++ [x] ++ l.drop k).Perm (m ++ [x]) := by
  have e : (l.take k ++ [x] ++ l.drop k).Perm (x :: l) := by
    rw [List.append_assoc]
    have := List.perm_middle (a := x) (l₁ := l.take k) (l₂ := l.drop k)
    rw [List.take_append_drop] at this
    exact this
  exact (e.trans (h.cons x)).trans (List.perm_append_singleton x m).symm
theorem DtAll.ins {H : Hp} {vs : List V} {ds : List PyData} {v : V} {d : PyData} (k : Nat) (h : DtAll H vs ds) (hv : Dt H v d) : DtAll H (vs.take k ++ [v] ++ vs.drop k) (ds.take k ++ [d] ++ ds.drop k) := by
  have ht : ∀ (k : Nat) {vs : List V} {ds : List PyData}, DtAll H vs ds → DtAll H (vs.take k) (ds.take k) ∧ DtAll H (vs.drop k) (ds.drop k) := by
    intro k
    induction k with
    | zero => exact fun h => ⟨.nil, h⟩
    | succ k ih =>
      intro vs ds h
      cases h with
      | nil => exact ⟨.nil, .nil⟩
      | cons a t => exact ⟨.cons a (ih t).1, (ih t).2⟩
  exact ((ht k h).1.app (.cons hv .nil)).app (ht k h).2
theorem SeedAt.tk {H H' : Hp} {d : Addr} {n : Nat} (h : SeedAt H d n) (s : SmX d H H') : TK H H' := by
  obtain ⟨xs, e⟩ := h.lst
  exact s.tk e
theorem seq_ix {r : Int} {n : Nat} (h0 : 0 ≤ r) (h1 : r < n) : seqIndex? r n = some r.toNat := by
  refine (ixN_seq (j := r.toNat) ?_).1
  unfold ixN
  rw [if_pos h0, if_pos h1]
/-- within the making of a tree: the names at p, the ties so far at t -/
structure Tr (H H' : Hp) (d p t : Addr) (n : Nat) (ls : List Nm) (tvs : List V) (ts : List Tie) : Prop where
  nm : NamesAt H' p ls
  tt : H' t = some (.lst tvs)
  al : DtAll H' tvs (ts.map tieD)
  sm : SmX d H H'
  dk : SeedAt H' d n
theorem Tr.new {H H' : Hp} {d p t q : Addr} {n : Nat} {ls : List Nm} {tvs : List V} {ts : List Tie} {o : HO} (x : Tr H H' d p t n ls tvs ts) (nq : H' q = none) : Tr H (upd H' q o) d p t n ls tvs ts :=
  ⟨by unfold NamesAt; rw [upd_ne (ne_of_none x.nm nq)]; exact x.nm, by rw [upd_ne (ne_of_none x.tt nq)]; exact x.tt, DtAll.keep (TK.new nq) x.al, x.sm.new nq, x.dk.new nq⟩
theorem Tr.step {H H' H'' : Hp} {d p t : Addr} {n m : Nat} {ls : List Nm} {tvs : List V} {ts : List Tie} (x : Tr H H' d p t n ls tvs ts) (npd : p ≠ d) (ntd : t ≠ d) (s : SmX d H' H'') (D : SeedAt H'' d m) : Tr H H'' d p t m ls tvs ts :=
  ⟨s p _ npd x.nm, s t _ ntd x.tt, DtAll.keep (x.dk.tk s) x.al, x.sm.trans s, D⟩
theorem Tr.put {H H' : Hp} {d p t q : Addr} {n : Nat} {ls : List Nm} {tvs xs : List V} {ts : List Tie} {o : HO} (x : Tr H H' d p t n ls tvs ts) (np : q ≠ p) (nt : q ≠ t) (nd : q ≠ d) (n0 : H q = none) (hq : H' q = some (.lst xs)) : Tr H (upd H' q o) d p t n ls tvs ts :=
  ⟨by unfold NamesAt; rw [upd_ne np.symm]; exact x.nm, by rw [upd_ne nt.symm]; exact x.tt, DtAll.keep (TK.mut hq) x.al, x.sm.put n0, x.dk.put nd⟩
theorem Tr.mono {H H' : Hp} {d p t : Addr} {n m : Nat} {ls : List Nm} {tvs : List V} {ts : List Tie} (x : Tr H H' d p t n ls tvs ts) (h : n ≤ m) : Tr H H' d p t m ls tvs ts := ⟨x.nm, x.tt, x.al, x.sm, x.dk.mono h⟩
section
variable {P : Program} {w : World} {K : PySem.W.Frag} {mg : Str → Option Value} {base : Heap}
def spTree : Sp := fun vs H Q _ => ∃ (d : Addr) (n : Nat) (most : Nat), vs = [.ref d, .int most] ∧ SeedAt H d n ∧ n < 70000 ∧ 1 ≤ most ∧ most ≤ 30 ∧ ∀ (H' : Hp) (t : Addr) (pl : List Nm) (ts : List Tie), IsTree pl ts → (∀ l ∈ pl, NameOk l) → pl.length ≤ most → Dt H' (.ref t) (treeD pl ts) → SmX d H H' → SeedAt H' d (n + 1000) → Q (.ref t) H'
theorem ok_tree {f : Addr} {fd : FuncData} (F : Fun K "_law_tree" "_law_tree" s_law_tree f fd) (T : TxtG mg) (C_law_draw : Cal P w K mg base 1 "_law_draw" spDraw) (C_law_name : Cal P w K mg base 2 "_law_name" spName) (C_law_length : Cal P w K mg base 2 "_law_length" spLength) : FnOk P w K mg base CX0 3 f fd ["seed", "most"] spTree := by
  refine F.ok sc_law_tree (fun vs H Q E h => ?_) (fun cdv A outer s H vs Q E hr h => ?_)
  · obtain ⟨d, n, most, rfl, _⟩ := h
    rfl
  · obtain ⟨d, n, most, rfl, hD, hn, hm1, hm, q⟩ := h
    refine ⟨_, (pss_cons (ps_set (i := 2) sc_law_tree.nd rfl (.inl rfl) (pe_ix ix_list (pe_lst (pa_cons (pe_op op_add pe_int (pe_c C_law_draw hr (by decide) rfl (pa_cons (pv 0) (pa_cons (pe_callB (call_min2 rfl) (by rfl) T.min bt_min (pa_cons (pv 1) (pa_cons pe_int pa_nil))) pa_nil)))) (pa_cons (pe_op op_add pe_int (pe_c C_law_draw hr (by decide) rfl (pa_cons (pv 0) (pa_cons (pv 1) pa_nil)))) (pa_cons (pv 1) pa_nil)))) (pe_c C_law_draw hr (by decide) rfl (pa_cons (pv 0) (pa_cons pe_int pa_nil))) (fun _ _ => rfl)))
      (pss_cons (ps_set (i := 3) sc_law_tree.nd rfl (.inl rfl) (pe_c C_law_draw hr (by decide) rfl (pa_cons (pv 0) (pa_cons pe_int pa_nil))))
      (pss_cons (ps_set (i := 4) sc_law_tree.nd rfl (.inl rfl) (pe_c C_law_draw hr (by decide) rfl (pa_cons (pv 0) (pa_cons pe_int pa_nil))))
      (pss_cons (ps_set (i := 5) sc_law_tree.nd rfl (.inl rfl) (pe_lst pa_nil))
      (pss_cons (ps_set (i := 6) sc_law_tree.nd rfl (.inl rfl) (pe_lst pa_nil))
      (pss_cut (ps_for PassesOwn.never rfl (pi_range1 (by rfl) T.range (pa_cons (pv 2) pa_nil)) (pg_name (i := 7) sc_law_tree.nd rfl (.inl rfl))
        (pss_one (ps_expr (pe_bm PySem.F.plainAttrs_list PySem.F.slot_list_append PySem.F.type_list_append mt_append (pv 5) (pa_cons (pe_c C_law_name hr (by decide) rfl (pa_cons (pv 0) (pa_cons (pv 5) pa_nil))) pa_nil)))))
      (pss_cons (ps_set (i := 8) sc_law_tree.nd rfl (.inr rfl) (pe_listRg rfl (by rfl) T.list (prg_1 (by rfl) T.range (pv 2))))
      (pss_cut (ps_if (pt_cmpR op_gt (pe_c C_law_draw hr (by decide) rfl (pa_cons (pv 0) (pa_cons pe_int pa_nil))) pe_int (nomark _))
        (pss_one (ps_set (i := 8) sc_law_tree.nd rfl (.inr rfl) (pe_lc (own := [("k", 7)]) (g := gName 7) (tt := tYes) rfl sc_law_tree.nd (pi_range1 (by rfl) T.range (pa_cons (pv 2) pa_nil)) (blkOk_by (N := N_law_tree) (sc := defScope s_law_tree) (by decide +kernel)) (fun _ _ _ _ _ => pg_name (i := 7) sc_law_tree.nd rfl (Or.inl rfl)) (fun _ _ _ _ _ => pts_nil) (fun _ _ _ _ _ => (show PE _ _ (tBM K "list" rPopAt _ _) from pe_bm PySem.F.plainAttrs_list PySem.F.slot_list_pop PySem.F.type_list_pop mt_popAt (pv 8) (pa_cons (pe_c C_law_draw hr (by decide) rfl (pa_cons (pv 0) (pa_cons (pe_callB (lenK (K := K)) (by rfl) T.len bt_len (pa_cons (pv 8) pa_nil)) pa_nil))) pa_nil))))))
        pss_nil)
      (pss_cut (ps_for PassesOwn.never rfl (pi_range2 (by rfl) T.range (pa_cons pe_int (pa_cons (pv 2) pa_nil))) (pg_name (i := 7) sc_law_tree.nd rfl (.inl rfl))
        (pss_cons (ps_set (i := 9) sc_law_tree.nd rfl (.inl rfl) (pe_op op_sub (pe_op op_sub (pv 7) pe_int) (pe_c C_law_draw hr (by decide) rfl (pa_cons (pv 0) (pa_cons (pe_callB (call_min2 rfl) (by rfl) T.min bt_min (pa_cons (pv 7) (pa_cons pe_int pa_nil))) pa_nil)))))
        (pss_cons (ps_set (i := 10) sc_law_tree.nd rfl (.inl rfl) (pe_ix ix_list (pe_lst (pa_cons (pe_op op_sub (pv 7) pe_int) (pa_cons pe_int (pa_cons (pe_op op_mul (pe_op op_mod (pv 7) pe_int) (pe_callTy call_int1 (by rfl) T.int bt_int (pa_cons (pe_cmpR op_gt (pv 7) pe_int (nomark _)) pa_nil))) (pa_cons (pv 9) (pa_cons (pe_c C_law_draw hr (by decide) rfl (pa_cons (pv 0) (pa_cons (pv 7) pa_nil))) (pa_cons (pe_callB (call_max2 rfl) (by rfl) T.max bt_max (pa_cons pe_int (pa_cons (pe_op op_sub (pe_op op_sub (pv 7) pe_int) (pe_op op_mod (pv 7) pe_int)) pa_nil))) pa_nil))))))) (pv 3) (fun _ _ => rfl)))
        (pss_cons (ps_set (i := 11) sc_law_tree.nd rfl (.inl rfl) (pe_stepL (pe_lst (pa_cons (pe_ix ix_list (pv 5) (pe_ix ix_list (pv 8) (pv 10) (fun _ _ => rfl)) (fun _ _ => rfl)) (pa_cons (pe_ix ix_list (pv 5) (pe_ix ix_list (pv 8) (pv 7) (fun _ _ => rfl)) (fun _ _ => rfl)) pa_nil))) (pe_ix ix_list (pe_lst (pa_cons pe_int (pa_cons (pe_un un_neg pe_int) pa_nil))) (pe_c C_law_draw hr (by decide) rfl (pa_cons (pv 0) (pa_cons pe_int pa_nil))) (fun _ _ => rfl))))
        (pss_one (ps_expr (pe_bm PySem.F.plainAttrs_list PySem.F.slot_list_insert PySem.F.type_list_insert mt_insert (pv 6) (pa_cons (pe_c C_law_draw hr (by decide) rfl (pa_cons (pv 0) (pa_cons (pe_op op_add (pe_callB call_len_seq (by rfl) T.len bt_len (pa_cons (pv 6) pa_nil)) pe_int) pa_nil))) (pa_cons (pe_tup (pa_cons (pe_ix ix_list (pv 11) pe_int (fun _ _ => rfl)) (pa_cons (pe_ix ix_list (pv 11) pe_int (fun _ _ => rfl)) (pa_cons (pe_c C_law_length hr (by decide) rfl (pa_cons (pv 0) (pa_cons (pv 4) pa_nil))) pa_nil)))) pa_nil)))))))))
      (pss_one (ps_ret (pe_tup (pa_cons (pe_tupleOf (by rfl) T.tuple (pv 5)) (pa_cons (pe_tupleOf (by rfl) T.tuple (pv 6)) pa_nil)))))))))))))), ?_⟩
    -- many
    refine ⟨_, rfl, _, rfl, _, _, rfl, d, n, _, rfl, hD, by omega, by split <;> omega, by split <;> omega, fun H1 r1 r10 r11 S1 D1 => ⟨_, _, rfl, rfl, ?_⟩⟩
    have r12 : r1 < most := by split at r11 <;> omega
    refine ⟨_, rfl, _, rfl, d, _, most, rfl, D1, by omega, by omega, by omega, fun H2 r2 r20 r21 S2 D2 => ⟨_, _, rfl, rfl, ?_⟩⟩
    refine ⟨_, rfl, (by show 3 ≤ sizeLine; decide), fun p1 np1 => ?_⟩
    refine ⟨_, rfl, d, _, 3, rfl, D2.new np1, by omega, by decide, by decide, fun H3 r3 r30 r31 S3 D3 => ?_⟩
    have hp1 := S3 p1 _ (D2.nd np1) upd_same
    have SM3 : SmX d H H3 := ((S1.trans S2).new np1).trans S3
    obtain ⟨v, hv, mv⟩ := atI_in (xs := [V.int (1 + r1), .int (1 + r2), .int most]) r30 (by simpa using r31)
    have hs : ∃ m : Nat, v = .int m ∧ 1 ≤ m ∧ m ≤ most := by
      simp only [List.mem_cons, List.not_mem_nil, or_false] at mv
      rcases mv with e | e | e
      · exact ⟨(1 + r1).toNat, by rw [e]; congr 1; omega, by omega, by omega⟩
      · exact ⟨(1 + r2).toNat, by rw [e]; congr 1; omega, by omega, by omega⟩
      · exact ⟨most, e, by omega, by omega⟩
    obtain ⟨many, rfl, m1, mm⟩ := hs
    refine ⟨p1, _, r3, _, rfl, rfl, SqL.of hp1, hv, ?_⟩
    -- shape, kind
    refine ⟨_, rfl, d, _, 6, rfl, D3, by omega, by decide, by decide, fun H4 shape w0 w1 S4 D4 => ?_⟩
    refine ⟨_, rfl, d, _, 5, rfl, D4, by omega, by decide, by decide, fun H5 kind g0 g1 S5 D5 => ?_⟩
    have SM5 : SmX d H H5 := (SM3.trans S4).trans S5
    -- names, ties
    refine ⟨Nat.zero_le _, fun p np => ?_⟩
    have npd : p ≠ d := D5.nd np
    have np0 : H p = none := SM5.free np npd
    have D6 := D5.new (o := .lst []) np
    have SM6 : SmX d H (upd H5 p (.lst [])) := SM5.new np
    refine ⟨Nat.zero_le _, fun t nt => ?_⟩
    have ntd : t ≠ d := D6.nd nt
    have nt0 : H t = none := SM6.free nt ntd
    have ntp : p ≠ t := ne_of_none upd_same nt
    -- the names
    refine ⟨fun σ' H' => ∃ (x7 : Option V) (ls : List Nm), σ' = [some (.ref d), some (.int most), some (.int many), some (.int shape), some (.int kind), some (.ref p), some (.ref t), x7, none, none, none, none] ∧ ls.length = many ∧ ls.Nodup ∧ (∀ l ∈ ls, NameOk l) ∧ Tr H H' d p t (n + 5 + 20 * many) ls [] [], ?_, fun σ' H' hM => ?_⟩
    · refine ⟨_, rfl, (many : Int), rfl, by omega, by omega, ?_⟩
      refine for_range (lo := 0) (n := (many : Int).toNat) (fun i σ' H' => ∃ (x7 : Option V) (ls : List Nm), σ' = [some (.ref d), some (.int most), some (.int many), some (.int shape), some (.int kind), some (.ref p), some (.ref t), x7, none, none, none, none] ∧ ls.length = i ∧ ls.Nodup ∧ (∀ l ∈ ls, NameOk l) ∧ Tr H H' d p t (n + 5 + 20 * i) ls [] []) ⟨none, [], rfl, rfl, List.nodup_nil, by simp, ?_, upd_same, .nil, SM6.new nt, D6.new nt⟩ (fun i σ' H' hi hP => ?_) (fun σ' H' hP => ?_)
      · unfold NamesAt
        rw [upd_ne ntp]
        exact upd_same
      · obtain ⟨x7, ls, rfl, hl, nd, ok, X0⟩ := hP
        refine ⟨_, rfl, .inl ⟨rfl, _, SqL.of X0.nm⟩, _, rfl, _, rfl, d, p, _, ls, rfl, X0.dk, by omega, npd, X0.nm, by omega, ok, fun H7 l lok nin S7 D7 => ?_⟩
        have X7 := X0.step npd ntd S7 D7
        refine ⟨p, _, _, rfl, rfl, X7.nm, by rw [List.length_map, List.length_map]; exact sz_lt (by omega), ?_⟩
        refine ⟨_, ls ++ [l], rfl, by rw [List.length_append, hl]; rfl, nd_snoc' nd nin, fun x hx => ?_, ?_, ?_, ?_, X7.sm.put np0, (X7.dk.put npd).mono (by omega)⟩
        · rcases List.mem_append.mp hx with z | z
          · exact ok x z
          · rw [List.mem_singleton.mp z]
            exact lok
        · unfold NamesAt
          rw [upd_same, List.map_append, List.map_append]
          rfl
        · rw [upd_ne ntp.symm]
          exact X7.tt
        · exact .nil
      · obtain ⟨x7, ls, rfl, hl, nd, ok, X0⟩ := hP
        exact ⟨x7, ls, rfl, by omega, nd, ok, X0.mono (by omega)⟩
    obtain ⟨x7, ls, rfl, hl, nd, ok, X1⟩ := hM
    -- order
    refine ⟨_, rfl, (many : Int), rfl, RgOk.of_le (by omega) (by omega) (by omega) (by omega), fun o no => ?_⟩
    rw [rgV_nat]
    have X2 := X1.new (o := .lst ((List.range many).map iV)) no
    have od : o ≠ d := X1.dk.nd no
    have o0 : H o = none := X1.sm.free no od
    have op : o ≠ p := (ne_of_none X1.nm no).symm
    have ot : o ≠ t := (ne_of_none X1.tt no).symm
    refine ⟨fun σ' H' => ∃ (x7 : Option V) (o : Addr) (js : List Nat), σ' = [some (.ref d), some (.int most), some (.int many), some (.int shape), some (.int kind), some (.ref p), some (.ref t), x7, some (.ref o), none, none, none] ∧ o ≠ d ∧ o ≠ p ∧ o ≠ t ∧ H o = none ∧ js.Perm (List.range ls.length) ∧ H' o = some (.lst (js.map iV)) ∧ Tr H H' d p t (n + 640) ls [] [], ?_, fun σ' H' hM => ?_⟩
    · refine ⟨_, rfl, d, _, 3, rfl, X2.dk, by omega, by decide, by decide, fun H7 r7 r70 r71 S7 D7 => ?_⟩
      have X7 := X2.step npd ntd S7 D7
      have ho7 : H7 o = some (.lst ((List.range many).map iV)) := S7 o _ od upd_same
      refine ⟨_, _, rfl, rfl, _, rfl, ?_⟩
      refine ite2 (fun e => ?_) (fun e => ?_)
      · refine ⟨_, rfl, (many : Int), rfl, by omega, by omega, fun D nD => ?_⟩
        have Dd := X7.dk.nd nD
        have D0 : H D = none := X7.sm.free nD Dd
        have Dp' : D ≠ p := (ne_of_none X7.nm nD).symm
        have DNt : D ≠ t := (ne_of_none X7.tt nD).symm
        have Do : D ≠ o := (ne_of_none ho7 nD).symm
        refine lc_range (lo := 0) (n := (many : Int).toNat) (fun i H'' => ∃ l1 l2 : List Nat, l1.length = i ∧ (l1 ++ l2).Perm (List.range many) ∧ H'' D = some (.lst (l1.map iV)) ∧ H'' o = some (.lst (l2.map iV)) ∧ Tr H H'' d p t (n + 6 + 20 * many + i) ls [] [])
          ⟨[], List.range many, rfl, List.Perm.refl _, upd_same, by rw [upd_ne Do.symm]; exact ho7, (X7.new nD).mono (by omega)⟩ (fun i H'' hi hP => ?_) (fun H'' hP => ?_)
        · obtain ⟨l1, l2, hl1, pm, hDD, ho, X3⟩ := hP
          have ll := pm.length_eq
          rw [List.length_append, List.length_range] at ll
          refine ⟨rfl, _, rfl, .inl ⟨rfl, _, SqL.of ho⟩, _, rfl, _, rfl, .ref o, _, rfl, .inl ⟨_, SqL.of ho, rfl⟩, d, _, _, rfl, X3.dk, by omega, by rw [List.length_map]; omega, by rw [List.length_map]; omega, fun H8 r r0 r1 S8 D8 => ?_⟩
          have X8 := X3.step npd ntd S8 D8
          have hD8 := S8 D _ Dd hDD
          have ho8 := S8 o _ od ho
          rw [List.length_map] at r1
          have hx : l2[r.toNat]? = some (l2[r.toNat]'(by omega)) := List.getElem?_eq_getElem (by omega)
          generalize l2[r.toNat]'(by omega) = x at hx
          have hx' : (l2.map iV)[r.toNat]? = some (iV x) := by
            rw [List.getElem?_map, hx]
            rfl
          refine ⟨o, _, r, r.toNat, iV x, rfl, rfl, ho8, by omega, by omega, seq_ix r0 (by rw [List.length_map]; exact r1), hx', ?_⟩
          have X9 := X8.put (o := .lst ((l2.map iV).eraseIdx r.toNat)) op ot od o0 ho8
          have hD9 : (upd H8 o (.lst ((l2.map iV).eraseIdx r.toNat))) D = some (.lst (l1.map iV)) := by
            rw [upd_ne Do]
            exact hD8
          refine ⟨_, hD9, by rw [List.length_map]; exact sz_lt (by omega), l1 ++ [x], l2.eraseIdx r.toNat, by rw [List.length_append, hl1]; rfl, perm_pick pm hx, ?_, ?_, X9.put Dp' DNt Dd D0 hD9⟩
          · rw [upd_same, List.map_append]
            rfl
          · rw [upd_ne Do.symm, upd_same, map_erase]
        · obtain ⟨l1, l2, hl1, pm, hDD, ho, X3⟩ := hP
          have ll := pm.length_eq
          rw [List.length_append, List.length_range] at ll
          have e2 : l2 = [] := List.length_eq_zero_iff.mp (by omega)
          subst e2
          rw [List.append_nil] at pm
          exact ⟨_, D, l1, rfl, Dd, Dp', DNt, D0, by rw [hl]; exact pm, hDD, X3.mono (by omega)⟩
      · exact ⟨_, o, List.range many, rfl, od, op, ot, o0, by rw [hl], ho7, X7.mono (by omega)⟩
    clear x7 X1 X2 no od o0 op ot
    clear o
    obtain ⟨x7, o, js, rfl, od, op, ot, o0, pj, ho, X1⟩ := hM
    have pos := inOrd_perm pj
    have ol : (inOrd ls js).length = many := by rw [pos.length_eq, hl]
    have ond : (inOrd ls js).Nodup := pos.nodup_iff.mpr nd
    -- the ties
    refine ⟨fun σ' H' => ∃ (x7 x9 x10 x11 : Option V) (tvs : List V) (ts es : List Tie), σ' = [some (.ref d), some (.int most), some (.int many), some (.int shape), some (.int kind), some (.ref p), some (.ref t), x7, some (.ref o), x9, x10, x11] ∧ Grown (inOrd ls js) es ∧ ts.Perm es ∧ Tr H H' d p t (n + 1000) ls tvs ts, ?_, fun σ' H' hM => ?_⟩
    · refine ⟨_, rfl, 1, many, rfl, ⟨by decide, by decide, by omega, by omega⟩, ?_⟩
      refine for_range (lo := 1) (n := ((many : Int) - 1).toNat) (fun i σ' H' => ∃ (x7 x9 x10 x11 : Option V) (tvs : List V) (ts es : List Tie), σ' = [some (.ref d), some (.int most), some (.int many), some (.int shape), some (.int kind), some (.ref p), some (.ref t), x7, some (.ref o), x9, x10, x11] ∧ Grown ((inOrd ls js).take (i + 1)) es ∧ ts.Perm es ∧ H' o = some (.lst (js.map iV)) ∧ Tr H H' d p t (n + 640 + 8 * i) ls tvs ts) ⟨_, _, _, _, [], [], [], rfl, ?_, List.Perm.refl _, ho, X1⟩ (fun i σ' H' hi hP => ?_) (fun σ' H' hP => ?_)
      · cases hos : inOrd ls js with
        | nil => rw [hos] at ol; simp at ol; omega
        | cons a r => exact Grown.one a
      · obtain ⟨x7, x9, x10, x11, tvs, ts, es, rfl, hG, pm, ho0, X0⟩ := hP
        have hi' : i + 1 < many := by omega
        -- near
        refine ⟨_, rfl, _, _, rfl, rfl, _, rfl, _, rfl, _, _, rfl, d, _, _, rfl, X0.dk, by omega, by split <;> omega, by split <;> omega, fun H7 nr nr0 nr1 S7 D7 => ⟨_, _, rfl, rfl, ?_⟩⟩
        have nr2 : nr < 1 + (i : Int) := by split at nr1 <;> omega
        have X7 := X0.step npd ntd S7 D7
        have ho7 := S7 o _ od ho0
        -- at
        refine ⟨_, rfl, _, _, rfl, rfl, _, rfl, _, _, rfl, rfl, (by show (0 : Int) < _; decide), ?_⟩
        refine ⟨_, rfl, _, _, rfl, rfl, .inr ⟨_, rfl, ?_⟩⟩
        refine ⟨_, _, rfl, rfl, .inl ⟨by omega, by omega⟩, _, rfl, _, rfl, _, rfl, d, _, _, rfl, X7.dk, by omega, by omega, by omega, fun H8 a a0 a1 S8 D8 => ?_⟩
        have X8 := X7.step npd ntd S8 D8
        have ho8 := S8 o _ od ho7
        refine ⟨_, rfl, _, _, rfl, rfl, _, rfl, _, _, rfl, rfl, (by show (0 : Int) < _; decide), _, _, rfl, rfl, _, _, rfl, (by show 6 ≤ sizeLine; decide), fun p8 np8 => ?_⟩
        have X9 := X8.new (o := .lst [V.int (1 + (i : Int) - 1), .int 0, .int ((1 + (i : Int)) % 2 * if decide (1 + (i : Int) > 1) = true then 1 else 0), .int (1 + (i : Int) - 1 - nr), .int a, .int (if 1 + (i : Int) - 1 - (1 + (i : Int)) % 2 > 0 then 1 + (i : Int) - 1 - (1 + (i : Int)) % 2 else 0)]) np8
        obtain ⟨v, hv, mv⟩ := atI_in (xs := [V.int (1 + (i : Int) - 1), .int 0, .int ((1 + (i : Int)) % 2 * if decide (1 + (i : Int) > 1) = true then 1 else 0), .int (1 + (i : Int) - 1 - nr), .int a, .int (if 1 + (i : Int) - 1 - (1 + (i : Int)) % 2 > 0 then 1 + (i : Int) - 1 - (1 + (i : Int)) % 2 else 0)]) w0 (by simpa using w1)
        have hs : ∃ m : Nat, v = .int m ∧ m < i + 1 := by
          simp only [List.mem_cons, List.not_mem_nil, or_false] at mv
          rcases mv with e | e | e | e | e | e
          · exact ⟨i, by rw [e]; congr 1; omega, by omega⟩
          · exact ⟨0, e, by omega⟩
          · by_cases z : decide (1 + (i : Int) > 1) = true
            · rw [if_pos z, Int.mul_one] at e
              have z := of_decide_eq_true z
              exact ⟨((1 + (i : Int)) % 2).toNat, by rw [e, Int.toNat_of_nonneg (by omega)], by omega⟩
            · rw [if_neg z, Int.mul_zero] at e
              exact ⟨0, e, by omega⟩
          · exact ⟨(1 + (i : Int) - 1 - nr).toNat, by rw [e, Int.toNat_of_nonneg (by omega)], by omega⟩
          · exact ⟨a.toNat, by rw [e]; congr 1; omega, by omega⟩
          · by_cases z : 1 + (i : Int) - 1 - (1 + (i : Int)) % 2 > 0
            · rw [if_pos z] at e
              exact ⟨(1 + (i : Int) - 1 - (1 + (i : Int)) % 2).toNat, by rw [e]; congr 1; omega, by omega⟩
            · rw [if_neg z] at e
              exact ⟨0, e, by omega⟩
        obtain ⟨at', rfl, hat⟩ := hs
        refine ⟨_, rfl, p8, _, shape, _, rfl, rfl, SqL.of upd_same, hv, ?_⟩
        have ho9 : ∀ O, (upd H8 p8 O) o = some (.lst (js.map iV)) := fun O => by
          rw [upd_ne (ne_of_none ho8 np8)]
          exact ho8
        -- pair
        obtain ⟨ja, xa, ga, na, oa⟩ := inOrd_at pj (a := at') (by omega)
        obtain ⟨jk, xk, gk, nk, ok'⟩ := inOrd_at pj (a := i + 1) (by omega)
        have ek : 1 + (i : Int) = ((i + 1 : Nat) : Int) := by omega
        refine ⟨_, rfl, _, rfl, _, rfl, o, _, at', _, rfl, rfl, SqL.of (ho9 _), atI_nat ga, p, _, ja, _, rfl, rfl, SqL.of X9.nm, atI_nat na, ?_⟩
        refine ⟨_, rfl, _, rfl, _, rfl, o, _, 1 + (i : Int), _, rfl, rfl, SqL.of (ho9 _), by rw [ek]; exact atI_nat gk, p, _, jk, _, rfl, rfl, SqL.of X9.nm, atI_nat nk, (by show 2 ≤ sizeLine; decide), fun q1 nq1 => ?_⟩
        have X10 := X9.new (o := .lst [.str (S xa), .str (S xk)]) nq1
        refine ⟨_, rfl, (by show 2 ≤ sizeLine; decide), fun q2 nq2 => ?_⟩
        have X11 := X10.new (o := .lst [.int 1, .int (-1)]) nq2
        refine ⟨_, rfl, d, _, 2, rfl, X11.dk, by omega, by decide, by decide, fun H12 b b0 b1 S12 D12 => ?_⟩
        have X12 := X11.step npd ntd S12 D12
        have hq1 : H12 q1 = some (.lst [.str (S xa), .str (S xk)]) := S12 q1 _ (X9.dk.nd nq1) (by rw [upd_ne (ne_of_none upd_same nq2)]; exact upd_same)
        have hq2 : H12 q2 = some (.lst [.int 1, .int (-1)]) := S12 q2 _ (X10.dk.nd nq2) upd_same
        have ho12 : H12 o = some (.lst (js.map iV)) := S12 o _ od (by rw [upd_ne (ne_of_none (by rw [upd_ne (ne_of_none (ho9 _) nq1)]; exact ho9 _) nq2), upd_ne (ne_of_none (ho9 _) nq1)]; exact ho9 _)
        obtain ⟨v, hv, mv⟩ := atI_in (xs := [V.int 1, .int (-1)]) b0 (by simpa using b1)
        have hs : ∃ z : Int, v = .int z ∧ (z = 1 ∨ z = -1) := by
          simp only [List.mem_cons, List.not_mem_nil, or_false] at mv
          rcases mv with e | e
          · exact ⟨1, e, .inl rfl⟩
          · exact ⟨-1, e, .inr rfl⟩
        obtain ⟨z, rfl, hz⟩ := hs
        refine ⟨q2, _, b, _, rfl, rfl, SqL.of hq2, hv, z, rfl, q1, _, z, rfl, rfl, hz, SqL.of hq1, fun q3 nq3 => ?_⟩
        obtain ⟨ya, yb, ey, hab⟩ : ∃ ya yb : Nm, (if z = 1 then [V.str (S xa), .str (S xk)] else [V.str (S xa), .str (S xk)].reverse) = [.str (S ya), .str (S yb)] ∧ ((ya = xa ∧ yb = xk) ∨ (ya = xk ∧ yb = xa)) := by
          rcases hz with z1 | z1
          · exact ⟨xa, xk, by rw [if_pos z1], .inl ⟨rfl, rfl⟩⟩
          · exact ⟨xk, xa, by rw [if_neg (by rw [z1]; decide)]; rfl, .inr ⟨rfl, rfl⟩⟩
        rw [ey]
        have X13 := X12.new (o := .lst [.str (S ya), .str (S yb)]) nq3
        have ho13 : (upd H12 q3 (.lst [.str (S ya), .str (S yb)])) o = some (.lst (js.map iV)) := by
          rw [upd_ne (ne_of_none ho12 nq3)]
          exact ho12
        have tl : tvs.length = ts.length := by
          have := DtAll.len X13.al
          rwa [List.length_map] at this
        have gl := hG.len
        rw [List.length_take] at gl
        have pl := pm.length_eq
        -- ties.insert
        refine ⟨_, rfl, .inl ⟨rfl, _, SqL.of X13.tt⟩, _, rfl, _, rfl, t, _, rfl, .inl (SqL.of X13.tt), _, _, rfl, rfl, d, _, _, rfl, X13.dk, by omega, by omega, by omega, fun H14 r r0 r1 S14 D14 => ?_⟩
        have X14 := X13.step npd ntd S14 D14
        have hq3 : H14 q3 = some (.lst [.str (S ya), .str (S yb)]) := S14 q3 _ (X12.dk.nd nq3) upd_same
        have ho14 := S14 o _ od ho13
        refine ⟨_, rfl, q3, _, 0, _, rfl, rfl, SqL.of hq3, rfl, _, rfl, q3, _, 1, _, rfl, rfl, SqL.of hq3, rfl, ?_⟩
        refine ⟨_, rfl, _, rfl, d, _, kind, rfl, X14.dk, by omega, g0, g1, fun H15 lg l0 l1 S15 D15 => ?_⟩
        have X15 := X14.step npd ntd S15 D15
        have ho15 := S15 o _ od ho14
        refine ⟨(by show 3 ≤ sizeLine; decide), fun e4 ne4 => ?_⟩
        have X16 := X15.new (o := .tup [.str (S ya), .str (S yb), .int lg]) ne4
        have ho16 : (upd H15 e4 (.tup [.str (S ya), .str (S yb), .int lg])) o = some (.lst (js.map iV)) := by
          rw [upd_ne (ne_of_none ho15 ne4)]
          exact ho15
        refine ⟨t, tvs, r, _, rfl, rfl, X16.tt, sz_lt (by omega), r0, by omega, ?_⟩
        have tk : TK (upd H15 e4 (.tup [.str (S ya), .str (S yb), .int lg])) (upd (upd H15 e4 (.tup [.str (S ya), .str (S yb), .int lg])) t (.lst (tvs.take r.toNat ++ [.ref e4] ++ tvs.drop r.toNat))) := TK.mut X16.tt
        refine ⟨_, _, _, _, tvs.take r.toNat ++ [.ref e4] ++ tvs.drop r.toNat, ts.take r.toNat ++ [(ya, yb, lg)] ++ ts.drop r.toNat, es ++ [(ya, yb, lg)], rfl, ?_, perm_insert _ pm, ?_, ?_, upd_same, ?_, X16.sm.put nt0, (X16.dk.put ntd).mono (by omega)⟩
        · have e5 : (inOrd ls js).take (i + 1 + 1) = (inOrd ls js).take (i + 1) ++ [xk] := by
            rw [List.take_add_one, ok']
            rfl
          rw [e5]
          obtain ⟨la, ea⟩ := List.getElem?_eq_some_iff.mp oa
          obtain ⟨lk, ek'⟩ := List.getElem?_eq_some_iff.mp ok'
          refine Grown.leaf (a := xa) (k := lg) hG ?_ ?_ ?_ (by omega) (by omega)
          · exact List.mem_take_iff_getElem.mpr ⟨at', by omega, ea⟩
          · intro hm
            obtain ⟨j, hj, ej⟩ := List.mem_take_iff_getElem.mp hm
            have := (List.getElem_inj ond).mp (ej.trans ek'.symm)
            omega
          · rcases hab with ⟨z1, z2⟩ | ⟨z1, z2⟩ <;> rw [z1, z2]
            · exact .inl rfl
            · exact .inr rfl
        · rw [upd_ne ot]
          exact ho16
        · unfold NamesAt
          rw [upd_ne ntp]
          exact X16.nm
        · have := DtAll.ins r.toNat (DtAll.keep tk X16.al) (v := .ref e4) (d := tieD (ya, yb, lg)) (.tup (tk.tup _ _ upd_same) (.cons (.str _) (.cons (.str _) (.cons (.int _) .nil))))
          rw [List.map_append, List.map_append, List.map_take, List.map_drop]
          exact this
      · obtain ⟨x7, x9, x10, x11, tvs, ts, es, rfl, hG, pm, ho0, X0⟩ := hP
        refine ⟨_, _, _, _, tvs, ts, es, rfl, ?_, pm, X0.mono (by omega)⟩
        rwa [List.take_of_length_le (by omega)] at hG
    · obtain ⟨x7, x9, x10, x11, tvs, ts, es, rfl, hG, pm, X0⟩ := hM
      refine ⟨_, rfl, .inl ⟨p, _, rfl, SqL.of X0.nm, fun q1 nq1 => ?_⟩⟩
      have X6 := X0.new (o := .tup ((ls.map S).map V.str)) nq1
      refine ⟨_, rfl, .inl ⟨t, tvs, rfl, SqL.of X6.tt, fun q2 nq2 => ?_⟩⟩
      have X7 := X6.new (o := .tup tvs) nq2
      refine ⟨(by show 2 ≤ sizeLine; decide), fun q3 nq3 => ?_⟩
      have X8 := X7.new (o := .tup [.ref q1, .ref q2]) nq3
      have it : IsTree ls ts := ⟨inOrd ls js, es, hG, pos.symm, pm⟩
      exact q _ q3 ls ts it ok (by omega) (.tup upd_same (.cons (.tup (((TK.new nq2).trans (TK.new nq3)).tup _ _ upd_same) (dt_strs _ ls)) (.cons (.tup ((TK.new nq3).tup _ _ upd_same) X8.al) .nil))) X8.sm X8.dk
end
end Far

namespace Far
open PySem
open SX (S)
/-! ### ways in a tree -/
def Adj (ts : List Tie) (u v : Nm) (k : Int) : Prop := (u, v, k) ∈ ts ∨ (v, u, k) ∈ ts
theorem Adj.symm {ts : List Tie} {u v : Nm} {k : Int} (h : Adj ts u v k) : Adj ts v u k := h.elim .inr .inl
theorem Adj.perm {ts ts' : List Tie} {u v : Nm} {k : Int} (p : ts.Perm ts') (h : Adj ts u v k) : Adj ts' u v k := h.elim (fun h => .inl (p.mem_iff.mp h)) fun h => .inr (p.mem_iff.mp h)
/-- from u to v, no place twice: the places, the length -/
inductive Way (ts : List Tie) (u : Nm) : Nm → List Nm → Int → Prop
  | nil : Way ts u u [u] 0
  | snoc {v w : Nm} {p : List Nm} {L k : Int} : Way ts u v p L → Adj ts v w k → w ∉ p → Way ts u w (p ++ [w]) (L + k)
theorem Way.perm {ts ts' : List Tie} (q : ts.Perm ts') {u v : Nm} {p : List Nm} {L : Int} (h : Way ts u v p L) : Way ts' u v p L := by
  induction h with
  | nil => exact .nil
  | snoc _ ha hn ih => exact .snoc ih (ha.perm q) hn
theorem Way.last {ts : List Tie} {u v : Nm} {p : List Nm} {L : Int} (h : Way ts u v p L) : ∃ q, p = q ++ [v] := by
  cases h with
  | nil => exact ⟨[], rfl⟩
  | snoc _ _ _ => exact ⟨_, rfl⟩
theorem Way.mem {ts : List Tie} {u v : Nm} {p : List Nm} {L : Int} (h : Way ts u v p L) : v ∈ p := by
  obtain ⟨q, rfl⟩ := h.last
  simp
theorem Way.first {ts : List Tie} {u v : Nm} {p : List Nm} {L : Int} (h : Way ts u v p L) : ∃ q, p = u :: q := by
  induction h with
  | nil => exact ⟨[], rfl⟩
  | snoc _ _ _ ih =>
    obtain ⟨q, rfl⟩ := ih
    exact ⟨q ++ [_], rfl⟩
theorem Way.nodup {ts : List Tie} {u v : Nm} {p : List Nm} {L : Int} (h : Way ts u v p L) : p.Nodup := by
  induction h with
  | nil => simp
  | snoc _ _ hn ih => exact nd_snoc' ih hn
theorem Way.inside {ts : List Tie} {pl : List Nm} (ht : ∀ e ∈ ts, e.1 ∈ pl ∧ e.2.1 ∈ pl) {u v : Nm} {p : List Nm} {L : Int} (h : Way ts u v p L) (hu : u ∈ pl) : ∀ x ∈ p, x ∈ pl := by
  induction h with
  | nil =>
    intro x hx
    rw [List.mem_singleton.mp hx]
    exact hu
  | snoc _ ha _ ih =>
    intro x hx
    rcases List.mem_append.mp hx with z | z
    · exact ih x z
    · rw [List.mem_singleton.mp z]
      rcases ha with h | h
      · exact (ht _ h).2
      · exact (ht _ h).1
/-- a place on the way is come to by a way of its own -/
theorem Way.upto {ts : List Tie} {u v x : Nm} {p : List Nm} {L : Int} (h : Way ts u v p L) (hx : x ∈ p) : ∃ q M, Way ts u x q M ∧ ∀ y ∈ q, y ∈ p := by
  induction h with
  | nil =>
    rw [List.mem_singleton.mp hx]
    exact ⟨_, _, .nil, fun _ h => h⟩
  | snoc h1 ha hn ih =>
    rcases List.mem_append.mp hx with z | z
    · obtain ⟨q, M, hq, hs⟩ := ih z
      exact ⟨q, M, hq, fun y hy => List.mem_append_left _ (hs y hy)⟩
    · rw [List.mem_singleton.mp z]
      exact ⟨_, _, .snoc h1 ha hn, fun _ h => h⟩
section leaf
variable {os : List Nm} {es : List Tie} {a b : Nm} {k : Int} {e0 : Tie}
theorem adj_new (hb : ∀ e ∈ es, e.1 ≠ b ∧ e.2.1 ≠ b) (ab : a ≠ b) (he : e0 = (a, b, k) ∨ e0 = (b, a, k)) {x y : Nm} {m : Int} (h : Adj (es ++ [e0]) x y m) :
    (Adj es x y m ∧ x ≠ b ∧ y ≠ b) ∨ (x = a ∧ y = b ∧ m = k) ∨ (x = b ∧ y = a ∧ m = k) := by
  rcases h with h | h <;> rcases List.mem_append.mp h with z | z
  · exact .inl ⟨.inl z, hb _ z⟩
  · have z := List.mem_singleton.mp z
    rcases he with e | e <;> rw [e] at z <;> cases z
    · exact .inr (.inl ⟨rfl, rfl, rfl⟩)
    · exact .inr (.inr ⟨rfl, rfl, rfl⟩)
  · exact .inl ⟨.inr z, (hb _ z).2, (hb _ z).1⟩
  · have z := List.mem_singleton.mp z
    rcases he with e | e <;> rw [e] at z <;> cases z
    · exact .inr (.inr ⟨rfl, rfl, rfl⟩)
    · exact .inr (.inl ⟨rfl, rfl, rfl⟩)
theorem way_old (hb : ∀ e ∈ es, e.1 ≠ b ∧ e.2.1 ≠ b) (ab : a ≠ b) (he : e0 = (a, b, k) ∨ e0 = (b, a, k)) {u v : Nm} {p : List Nm} {L : Int} (h : Way (es ++ [e0]) u v p L) (hu : u ≠ b) :
    (v ≠ b ∧ b ∉ p ∧ Way es u v p L) ∨ (v = b ∧ ∃ q M, p = q ++ [b] ∧ L = M + k ∧ Way es u a q M) := by
  induction h with
  | nil => exact .inl ⟨hu, fun z => hu (List.mem_singleton.mp z).symm, .nil⟩
  | @snoc v w p L m h1 ha hn ih =>
    rcases ih with ⟨hv, hbp, hw⟩ | ⟨hv, q, M, hp, _, hq⟩
    · rcases adj_new hb ab he ha with ⟨ha, _, wb⟩ | ⟨e1, e2, e3⟩ | ⟨e1, _, _⟩
      · refine .inl ⟨wb, fun z => ?_, .snoc hw ha hn⟩
        rcases List.mem_append.mp z with z | z
        · exact hbp z
        · exact wb (List.mem_singleton.mp z).symm
      · subst e1 e2 e3
        exact .inr ⟨rfl, p, L, rfl, rfl, hw⟩
      · exact absurd e1 hv
    · rcases adj_new hb ab he ha with ⟨_, vb, _⟩ | ⟨e1, _, _⟩ | ⟨_, e2, _⟩
      · exact absurd hv vb
      · exact absurd (e1.symm.trans hv) ab
      · refine absurd ?_ hn
        rw [e2, hp]
        exact List.mem_append_left _ hq.mem
theorem way_from (hb : ∀ e ∈ es, e.1 ≠ b ∧ e.2.1 ≠ b) (ab : a ≠ b) (he : e0 = (a, b, k) ∨ e0 = (b, a, k)) {v : Nm} {p : List Nm} {L : Int} (h : Way (es ++ [e0]) b v p L) :
    (v = b ∧ p = [b] ∧ L = 0) ∨ (v ≠ b ∧ ∃ q M, p = b :: q ∧ L = k + M ∧ Way es a v q M) := by
  induction h with
  | nil => exact .inl ⟨rfl, rfl, rfl⟩
  | @snoc v w p L m h1 ha hn ih =>
    rcases ih with ⟨hv, hp, hL⟩ | ⟨hv, q, M, hp, hL, hq⟩
    · rcases adj_new hb ab he ha with ⟨_, vb, _⟩ | ⟨e1, _, _⟩ | ⟨_, e2, e3⟩
      · exact absurd hv vb
      · exact absurd (e1.symm.trans hv) ab
      · subst e2 e3 hp hL
        exact .inr ⟨ab, [w], 0, rfl, by omega, .nil⟩
    · have wb : w ≠ b := fun z => hn (by rw [z, hp]; simp)
      rcases adj_new hb ab he ha with ⟨ha, _, _⟩ | ⟨_, e2, _⟩ | ⟨e1, _, _⟩
      · subst hp hL
        exact .inr ⟨wb, q ++ [w], M + m, rfl, by omega, .snoc hq ha fun z => hn (List.mem_cons.mpr (.inr z))⟩
      · exact absurd e2 wb
      · exact absurd e1 hv
end leaf
theorem Grown.one_way {os : List Nm} {es : List Tie} (g : Grown os es) : ∀ {u v : Nm} {p q : List Nm} {L M : Int}, Way es u v p L → Way es u v q M → p = q ∧ L = M := by
  induction g with
  | one a =>
    intro u v p q L M h1 h2
    cases h1 with
    | nil =>
      cases h2 with
      | nil => exact ⟨rfl, rfl⟩
      | snoc _ ha _ => rcases ha with h | h <;> cases h
    | snoc _ ha _ => rcases ha with h | h <;> cases h
  | @leaf os es a b k e0 g ha hbn he k1 k2 ih =>
    intro u v p q L M h1 h2
    have hb : ∀ e ∈ es, e.1 ≠ b ∧ e.2.1 ≠ b := fun e hm => by
      obtain ⟨i1, i2, _⟩ := g.ties e hm
      exact ⟨fun z => hbn (z ▸ i1), fun z => hbn (z ▸ i2)⟩
    have ab : a ≠ b := fun z => hbn (z ▸ ha)
    by_cases hu : u = b
    · subst hu
      rcases way_from hb ab he h1 with ⟨v1, p1, l1⟩ | ⟨v1, p1, l1, e1, e2, w1⟩ <;> rcases way_from hb ab he h2 with ⟨v2, p2, l2⟩ | ⟨v2, p2, l2, e3, e4, w2⟩
      · exact ⟨p1.trans p2.symm, l1.trans l2.symm⟩
      · exact absurd v1 v2
      · exact absurd v2 v1
      · obtain ⟨z1, z2⟩ := ih w1 w2
        rw [e1, e2, e3, e4, z1, z2]
        exact ⟨rfl, rfl⟩
    · rcases way_old hb ab he h1 hu with ⟨v1, _, w1⟩ | ⟨v1, p1, l1, e1, e2, w1⟩ <;> rcases way_old hb ab he h2 hu with ⟨v2, _, w2⟩ | ⟨v2, p2, l2, e3, e4, w2⟩
      · exact ih w1 w2
      · exact absurd v2 v1
      · exact absurd v1 v2
      · obtain ⟨z1, z2⟩ := ih w1 w2
        rw [e1, e2, e3, e4, z1, z2]
        exact ⟨rfl, rfl⟩
theorem IsTree.one_way {pl : List Nm} {ts : List Tie} (h : IsTree pl ts) {u v : Nm} {p q : List Nm} {L M : Int} (h1 : Way ts u v p L) (h2 : Way ts u v q M) : p = q ∧ L = M := by
  obtain ⟨os, es, g, _, p2⟩ := h
  exact g.one_way (h1.perm p2) (h2.perm p2)
/-- what is closed by ties and holds one place holds all -/
theorem Grown.all_of {os : List Nm} {es : List Tie} (g : Grown os es) : ∀ {F : Nm → Prop}, (∃ u ∈ os, F u) → (∀ x y k, F x → Adj es x y k → F y) → ∀ v ∈ os, F v := by
  induction g with
  | one a =>
    intro F ⟨u, hu, hF⟩ _ v hv
    rw [List.mem_singleton.mp hv, ← List.mem_singleton.mp hu]
    exact hF
  | @leaf os es a b k e0 g ha hbn he k1 k2 ih =>
    intro F ⟨u, hu, hF⟩ cl v hv
    have cab : Adj (es ++ [e0]) a b k := by
      rcases he with e | e
      · exact .inl (by rw [e]; simp)
      · exact .inr (by rw [e]; simp)
    have cl' : ∀ x y m, F x → Adj es x y m → F y := fun x y m hx h => cl x y m hx (h.elim (fun z => .inl (List.mem_append_left _ z)) fun z => .inr (List.mem_append_left _ z))
    have start : ∃ w ∈ os, F w := by
      rcases List.mem_append.mp hu with z | z
      · exact ⟨u, z, hF⟩
      · rw [List.mem_singleton.mp z] at hF
        exact ⟨a, ha, cl b a k hF cab.symm⟩
    have old := ih start cl'
    rcases List.mem_append.mp hv with z | z
    · exact old v z
    · rw [List.mem_singleton.mp z]
      exact cl a b k (old a ha) cab
theorem IsTree.all_of {pl : List Nm} {ts : List Tie} (h : IsTree pl ts) {F : Nm → Prop} {u : Nm} (hu : u ∈ pl) (hF : F u) (cl : ∀ x y k, F x → Adj ts x y k → F y) : ∀ v ∈ pl, F v := by
  obtain ⟨os, es, g, p1, p2⟩ := h
  intro v hv
  exact g.all_of ⟨u, p1.mem_iff.mp hu, hF⟩ (fun x y k hx ha => cl x y k hx (ha.perm p2.symm)) v (p1.mem_iff.mp hv)
theorem IsTree.way {pl : List Nm} {ts : List Tie} (h : IsTree pl ts) {u v : Nm} (hu : u ∈ pl) (hv : v ∈ pl) : ∃ p L, Way ts u v p L := by
  refine h.all_of (F := fun v => ∃ p L, Way ts u v p L) hu ⟨_, _, .nil⟩ (fun x y k ⟨p, L, hw⟩ ha => ?_) v hv
  by_cases hy : y ∈ p
  · obtain ⟨q, M, hq, _⟩ := hw.upto hy
    exact ⟨q, M, hq⟩
  · exact ⟨_, _, .snoc hw ha hy⟩
open Classical in
/-- the way and its length -/
noncomputable def wayOf (ts : List Tie) (u v : Nm) : List Nm × Int := if h : ∃ x : List Nm × Int, Way ts u v x.1 x.2 then h.choose else ([], 0)
noncomputable def path (ts : List Tie) (u v : Nm) : List Nm := (wayOf ts u v).1
noncomputable def dist (ts : List Tie) (u v : Nm) : Int := (wayOf ts u v).2
theorem IsTree.is_way {pl : List Nm} {ts : List Tie} (h : IsTree pl ts) {u v : Nm} {p : List Nm} {L : Int} (w : Way ts u v p L) : path ts u v = p ∧ dist ts u v = L := by
  have hx : ∃ x : List Nm × Int, Way ts u v x.1 x.2 := ⟨(p, L), w⟩
  unfold path dist wayOf
  rw [dif_pos hx]
  exact h.one_way hx.choose_spec w
theorem IsTree.the_way {pl : List Nm} {ts : List Tie} (h : IsTree pl ts) {u v : Nm} (hu : u ∈ pl) (hv : v ∈ pl) : Way ts u v (path ts u v) (dist ts u v) := by
  obtain ⟨p, L, w⟩ := h.way hu hv
  obtain ⟨e1, e2⟩ := h.is_way w
  rw [e1, e2]
  exact w
/-- the way back -/
theorem Way.cons {ts : List Tie} {u v w : Nm} {p : List Nm} {L k : Int} (ha : Adj ts w u k) (h : Way ts u v p L) (hn : w ∉ p) : Way ts w v (w :: p) (k + L) := by
  induction h with
  | nil =>
    have := Way.snoc (ts := ts) (u := w) .nil ha (by simpa using fun z => hn (by rw [z]; simp))
    simpa using this
  | @snoc v x p L m h1 hb hx ih =>
    have hn1 : w ∉ p := fun z => hn (List.mem_append_left _ z)
    have hxw : x ∉ w :: p := fun z => by
      rcases List.mem_cons.mp z with z | z
      · exact hn (by rw [z]; simp)
      · exact hx z
    have := Way.snoc (ih hn1) hb hxw
    rw [← Int.add_assoc]
    exact this
theorem Way.rev {ts : List Tie} {u v : Nm} {p : List Nm} {L : Int} (h : Way ts u v p L) : Way ts v u p.reverse L := by
  induction h with
  | nil => exact .nil
  | @snoc v w p L k h1 ha hn ih =>
    rw [List.reverse_append]
    have := Way.cons ha.symm ih (fun z => hn (List.mem_reverse.mp z))
    rw [Int.add_comm L k]
    exact this
theorem IsTree.dist_symm {pl : List Nm} {ts : List Tie} (h : IsTree pl ts) {u v : Nm} (hu : u ∈ pl) (hv : v ∈ pl) : dist ts u v = dist ts v u ∧ path ts v u = (path ts u v).reverse := by
  obtain ⟨e1, e2⟩ := h.is_way (h.the_way hu hv).rev
  exact ⟨e2.symm, e1⟩
theorem IsTree.dist_self {pl : List Nm} {ts : List Tie} (h : IsTree pl ts) (u : Nm) : dist ts u u = 0 ∧ path ts u u = [u] := by
  obtain ⟨e1, e2⟩ := h.is_way (u := u) .nil
  exact ⟨e2, e1⟩
theorem Way.nonneg {ts : List Tie} (hk : ∀ e ∈ ts, 1 ≤ e.2.2) {u v : Nm} {p : List Nm} {L : Int} (h : Way ts u v p L) : 0 ≤ L ∧ (p.length : Int) ≤ L + 1 := by
  induction h with
  | nil => simp
  | @snoc v w p L k _ ha _ ih =>
    have h1 : 1 ≤ k := ha.elim (fun z => hk _ z) fun z => hk _ z
    rw [List.length_append, List.length_singleton]
    omega
section
open PySem.Spec PyProof.Rows L2
/-! ### dicts by places -/
def dkm (fs : List Nm) (f : Nm → V) : List (Key × V) := fs.map fun l => (Sum.inr (S l), f l)
theorem dkm_get {f : Nm → V} {x : Nm} : ∀ {fs : List Nm}, x ∈ fs → valV (dkm fs f) (Sum.inr (S x)) = some (f x)
  | [], h => by simp at h
  | a :: r, h => by
    show valV ((Sum.inr (S a), f a) :: dkm r f) _ = _
    by_cases e : a = x
    · subst e
      exact valV_pos rfl
    · rw [valV_neg (fun z => e (SX.S_inj (Sum.inr.inj z)))]
      refine dkm_get ?_
      rcases List.mem_cons.mp h with z | z
      · exact absurd z.symm e
      · exact z
theorem dkm_no {f : Nm → V} {x : Nm} : ∀ {fs : List Nm}, x ∉ fs → valV (dkm fs f) (Sum.inr (S x)) = none
  | [], _ => rfl
  | a :: r, h => by
    show valV ((Sum.inr (S a), f a) :: dkm r f) _ = _
    rw [valV_neg (fun z => h (List.mem_cons.mpr (.inl (SX.S_inj (Sum.inr.inj z)).symm)))]
    exact dkm_no fun z => h (List.mem_cons.mpr (.inr z))
theorem dkm_cong {f g : Nm → V} {fs : List Nm} (h : ∀ x ∈ fs, f x = g x) : dkm fs f = dkm fs g := List.map_congr_left fun a ha => by rw [h a ha]
theorem dkm_new {f : Nm → V} {x : Nm} {v : V} {fs : List Nm} (h : x ∉ fs) : putK (dkm fs f) (Sum.inr (S x)) v = dkm (fs ++ [x]) (fun z => if z = x then v else f z) := by
  rw [putK_new _ (dkm_no h)]
  unfold dkm
  rw [List.map_append]
  have e : fs.map (fun l => ((Sum.inr (S l) : Key), f l)) = fs.map (fun l => ((Sum.inr (S l) : Key), if l = x then v else f l)) := List.map_congr_left fun a ha => by rw [if_neg (fun (z : a = x) => h (z ▸ ha))]
  rw [e]
  show _ = _ ++ [((Sum.inr (S x) : Key), if x = x then v else f x)]
  rw [if_pos rfl]
theorem dkm_some {f : Nm → V} {x : Nm} {fs : List Nm} : (valV (dkm fs f) (Sum.inr (S x))).isSome = decide (x ∈ fs) := by
  by_cases h : x ∈ fs
  · rw [dkm_get h, decide_eq_true h]
    rfl
  · rw [dkm_no h, decide_eq_false h]
    rfl
theorem tkD {H : Hp} {D : Addr} {kvs : List (Key × V)} {o : HO} (h : H D = some (.dK kvs)) : TK H (upd H D o) :=
  ⟨fun b xs z => by rw [upd_ne (ne_of z h (by intro q; cases q))]; exact z, fun b u xs z => by rw [upd_ne (ne_of z h (by intro q; cases q))]; exact z⟩
/-! ### a walk through a tree: fs come to, st to be gone on from, ex being gone on from -/
structure Wk (pl : List Nm) (ts : List Tie) (u : Nm) (fs st : List Nm) (prev : Nm → Nm) (ex : Nm → Prop) : Prop where
  nd : fs.Nodup
  sub : ∀ x ∈ fs, x ∈ pl
  sti : ∀ x ∈ st, x ∈ fs
  hu : u ∈ fs
  cl : ∀ x ∈ fs, ∀ y ∈ path ts u x, y ∈ fs
  pr : ∀ x ∈ fs, x ≠ u → prev x ∈ fs ∧ path ts u x = path ts u (prev x) ++ [x]
  done : ∀ x ∈ fs, x ∉ st → ¬ ex x → ∀ y k, Adj ts x y k → y ∈ fs
theorem Wk.start {pl : List Nm} {ts : List Tie} (h : IsTree pl ts) {u : Nm} (hu : u ∈ pl) : Wk pl ts u [u] [u] (fun _ => u) (fun _ => False) := by
  refine ⟨by simp, fun x hx => ?_, fun x hx => hx, by simp, fun x hx => ?_, fun x hx n => ?_, fun x hx n => absurd hx n⟩
  · rw [List.mem_singleton.mp hx]
    exact hu
  · rw [List.mem_singleton.mp hx, (h.dist_self u).2]
    exact fun y hy => hy
  · exact absurd (List.mem_singleton.mp hx) n
theorem Wk.pop {pl : List Nm} {ts : List Tie} {u h : Nm} {fs st : List Nm} {prev : Nm → Nm} (w : Wk pl ts u fs (st ++ [h]) prev (fun _ => False)) : h ∈ fs ∧ Wk pl ts u fs st prev (fun x => x = h) := by
  refine ⟨w.sti h (by simp), w.nd, w.sub, fun x hx => w.sti x (List.mem_append_left _ hx), w.hu, w.cl, w.pr, fun x hx n ne => w.done x hx (fun z => ?_) (fun z => z)⟩
  rcases List.mem_append.mp z with z | z
  · exact n z
  · exact ne (List.mem_singleton.mp z)
theorem Wk.push {pl : List Nm} {ts : List Tie} (tr : IsTree pl ts) {u h y : Nm} {k : Int} {fs st : List Nm} {prev : Nm → Nm} {ex : Nm → Prop} (w : Wk pl ts u fs st prev ex) (hh : h ∈ fs) (ha : Adj ts h y k) (hy : y ∉ fs) :
    dist ts u y = dist ts u h + k ∧ Wk pl ts u (fs ++ [y]) (st ++ [y]) (fun z => if z = y then h else prev z) ex := by
  have wh := tr.the_way (w.sub u w.hu) (w.sub h hh)
  have wy := Way.snoc wh ha fun z => hy (w.cl h hh y z)
  obtain ⟨e1, e2⟩ := tr.is_way wy
  have yp : y ∈ pl := by
    rcases ha with z | z
    · exact (tr.ties _ z).2.1
    · exact (tr.ties _ z).1
  refine ⟨e2, nd_snoc' w.nd hy, fun x hx => ?_, fun x hx => ?_, List.mem_append_left _ w.hu, fun x hx z hz => ?_, fun x hx n => ?_, fun x hx n ne z m hz => ?_⟩
  · rcases List.mem_append.mp hx with z | z
    · exact w.sub x z
    · rw [List.mem_singleton.mp z]
      exact yp
  · rcases List.mem_append.mp hx with z | z
    · exact List.mem_append_left _ (w.sti x z)
    · exact List.mem_append_right _ z
  · rcases List.mem_append.mp hx with q | q
    · exact List.mem_append_left _ (w.cl x q z hz)
    · rw [List.mem_singleton.mp q, e1] at hz
      rcases List.mem_append.mp hz with r | r
      · exact List.mem_append_left _ (w.cl h hh z r)
      · exact List.mem_append_right _ r
  · rcases List.mem_append.mp hx with q | q
    · have xy : x ≠ y := fun e => hy (e ▸ q)
      show (if x = y then h else prev x) ∈ fs ++ [y] ∧ path ts u x = path ts u (if x = y then h else prev x) ++ [x]
      rw [if_neg xy]
      exact ⟨List.mem_append_left _ (w.pr x q n).1, (w.pr x q n).2⟩
    · have xy := List.mem_singleton.mp q
      show (if x = y then h else prev x) ∈ fs ++ [y] ∧ path ts u x = path ts u (if x = y then h else prev x) ++ [x]
      rw [if_pos xy, xy]
      exact ⟨List.mem_append_left _ hh, e1⟩
  · rcases List.mem_append.mp hx with q | q
    · exact List.mem_append_left _ (w.done x q (fun r => n (List.mem_append_left _ r)) ne z m hz)
    · exact absurd (List.mem_append_right _ q) n
theorem Wk.shut {pl : List Nm} {ts : List Tie} {u h : Nm} {fs st : List Nm} {prev : Nm → Nm} (w : Wk pl ts u fs st prev (fun x => x = h)) (hd : ∀ y k, Adj ts h y k → y ∈ fs) : Wk pl ts u fs st prev (fun _ => False) :=
  ⟨w.nd, w.sub, w.sti, w.hu, w.cl, w.pr, fun x hx n _ y k ha => by
    by_cases e : x = h
    · rw [e] at ha
      exact hd y k ha
    · exact w.done x hx n e y k ha⟩
theorem Wk.all {pl : List Nm} {ts : List Tie} (tr : IsTree pl ts) {u : Nm} {fs : List Nm} {prev : Nm → Nm} (w : Wk pl ts u fs [] prev (fun _ => False)) : ∀ x, x ∈ fs ↔ x ∈ pl := fun x =>
  ⟨w.sub x, fun hx => tr.all_of (F := fun z => z ∈ fs) (w.sub u w.hu) w.hu (fun a b k ha hab => w.done a ha (by simp) (fun z => z) b k hab) x hx⟩
structure Fine (pl : List Nm) (ts : List Tie) : Prop where
  tree : IsTree pl ts
  ok : ∀ l ∈ pl, NameOk l
  len : pl.length ≤ 1000
theorem Fine.okT {pl : List Nm} {ts : List Tie} (F : Fine pl ts) {e : Tie} (he : e ∈ ts) : NameOk e.1 ∧ NameOk e.2.1 := by
  obtain ⟨i1, i2, _⟩ := F.tree.ties e he
  exact ⟨F.ok _ i1, F.ok _ i2⟩
theorem Fine.ne {pl : List Nm} {ts : List Tie} (F : Fine pl ts) : pl ≠ [] := fun z => by
  have := F.tree.len
  rw [z] at this
  simp at this
theorem dt_pair {H : Hp} {v : V} {d e : PyData} (h : Dt H v (.tuple [d, e])) (ne : ∀ l : Nm, e ≠ strD l) : ∃ (a : Addr) (x y : V), v = .ref a ∧ H a = some (.tup [x, y]) ∧ Dt H x d ∧ Dt H y e := by
  cases h with
  | tup ha hs =>
    cases hs with
    | cons h1 hr =>
      cases hr with
      | cons h2 hn =>
        cases hn
        exact ⟨_, _, _, rfl, ha, h1, h2⟩
  | @tupZ a pl _ o e _ _ _ =>
    exfalso
    cases pl with
    | nil => cases e
    | cons l r =>
      cases r with
      | nil => cases e
      | cons l2 r2 => exact ne l2 (List.cons.inj (List.cons.inj e).2).1
theorem dt_tup {H : Hp} {v : V} {ds : List PyData} (h : Dt H v (.tuple ds)) (ne : ds ≠ [] → ∃ d ∈ ds, ∀ l : Nm, d ≠ strD l) : ∃ (a : Addr) (xs : List V), v = .ref a ∧ H a = some (.tup xs) ∧ DtAll H xs ds := by
  cases h with
  | tup ha hs => exact ⟨_, _, rfl, ha, hs⟩
  | @tupZ a pl _ o e n _ _ =>
    exfalso
    obtain ⟨d, hd, no⟩ := ne (by rw [e]; simpa using n)
    rw [e] at hd
    obtain ⟨l, _, z⟩ := List.mem_map.mp hd
    exact no l z.symm
theorem dt_names {H : Hp} {v : V} {pl : List Nm} (h : Dt H v (.tuple (pl.map strD))) : ∃ a : Addr, v = .ref a ∧ TupAt H a ((pl.map S).map V.str) := by
  have inj : ∀ {p q : List Nm}, p.map strD = q.map strD → p = q := by
    intro p
    induction p with
    | nil =>
      intro q e
      cases q with
      | nil => rfl
      | cons _ _ => cases e
    | cons a r ih =>
      intro q e
      cases q with
      | nil => cases e
      | cons b t =>
        have e' := List.cons.inj e
        have h1 : S a = S b := PyData.str.inj e'.1
        rw [SX.S_inj h1, ih e'.2]
  generalize hd : pl.map strD = ds at h
  cases h with
  | tup ha hs =>
    subst hd
    rw [DtAll.strs hs] at ha
    exact ⟨_, rfl, .inl ha⟩
  | @tupZ a pl2 _ o e n d ha =>
    rw [← inj (hd.trans e)] at ha
    exact ⟨_, rfl, .inr ⟨o, d, ha⟩⟩
theorem tie_no (e : Tie) (l : Nm) : tieD e ≠ strD l := fun z => nomatch z
/-- a tree in the heap: its parts -/
theorem dt_tree {H : Hp} {v : V} {pl : List Nm} {ts : List Tie} (h : Dt H v (treeD pl ts)) : ∃ (t a b : Addr) (vs : List V), v = .ref t ∧ H t = some (.tup [.ref a, .ref b]) ∧ TupAt H a ((pl.map S).map V.str) ∧ H b = some (.tup vs) ∧ DtAll H vs (ts.map tieD) := by
  obtain ⟨t, x, y, rfl, ht, hx, hy⟩ := dt_pair h fun l z => nomatch z
  obtain ⟨a, rfl, ha⟩ := dt_names hx
  obtain ⟨b, vs, rfl, hb, hv⟩ := dt_tup hy fun n => by
    cases ts with
    | nil => exact absurd rfl n
    | cons e r => exact ⟨tieD e, List.mem_cons_self .., tie_no e⟩
  exact ⟨t, a, b, vs, rfl, ht, ha, hb, hv⟩
theorem dt_tie {H : Hp} {v : V} {e : Tie} (h : Dt H v (tieD e)) : ∃ t : Addr, v = .ref t ∧ H t = some (.tup [.str (S e.1), .str (S e.2.1), .int e.2.2]) := by
  obtain ⟨t, xs, rfl, ht, hs⟩ := dt_tup h fun _ => ⟨.int e.2.2, by simp [tieD], fun l z => nomatch z⟩
  cases hs with
  | cons h1 hr =>
    cases hr with
    | cons h2 hr =>
      cases hr with
      | cons h3 hr =>
        cases hr
        cases h1
        cases h2
        cases h3
        exact ⟨t, rfl, ht⟩
end
end Far

namespace Far
open PySem PySem.Spec PyProof.Rows L2
section
variable {X : Cx}
/-- name = {k: v for ..} on one line, the name a local one -/
theorem ps_setDc {i : Nat} {y : Str} {py spos pos : Pos} {kx vx tg iter : Expr} {ifs : List Expr} {scope : Scope} {own : List (Str × Nat)} {wi : TI} {g : TG} {tt : TT} {tk tv : TE}
    (hc : X.calm = true) (hN : X.N.Nodup) (hy : X.N[i]? = some y) (hyl : X.env.scope.names.lookup y = some .local) (hsw : swapsWith (.DictComp kx vx [⟨tg, iter, ifs, 0⟩] scope pos) (some (.Name y py)) spos.line X.env = pure true)
    (hi : PI X tg iter wi) (ok : BlkOk X.N X.env.scope scope own)
    (hg : ∀ (s : Shared) (H : Hp) (C : Addr) (l : List (Str × Addr)) (fp : List Addr), PG (X.blk s H scope (compEnvC scope l C X.env) fp) tg g)
    (ht : ∀ (s : Shared) (H : Hp) (C : Addr) (l : List (Str × Addr)) (fp : List Addr), PTs (X.blk s H scope (compEnvC scope l C X.env) fp) ifs tt)
    (hk : ∀ (s : Shared) (H : Hp) (C : Addr) (l : List (Str × Addr)) (fp : List Addr), PE (X.blk s H scope (compEnvC scope l C X.env) fp) kx tk)
    (hv : ∀ (s : Shared) (H : Hp) (C : Addr) (l : List (Str × Addr)) (fp : List Addr), PE (X.blk s H scope (compEnvC scope l C X.env) fp) vx tv)
    (hs : ∀ x, foldedSetIterable iter X.env x = pure x := by intro _; rfl) : PS X (.Assign [.Name y py] (.DictComp kx vx [⟨tg, iter, ifs, 0⟩] scope pos) spos) (tAsg (tDc wi g tt tk tv (own.map (·.2))) (gName i)) := by
  refine ⟨fun pins s σ H D I h => ?_⟩
  replace h : tDc wi g tt tk tv (own.map (·.2)) σ H (fun v H1 => gName i v σ H1 D.nx) := h
  rw [exec_Assign_Name_used _ _ _ _ hsw]
  refine wpAny_bind (wpAny_standAt (wpAny_bind ?_))
  show wpAny _ X.A (do let _ ← comprehension (.DictComp kx vx [⟨tg, iter, ifs, 0⟩] scope pos) scope X.env (firstIterPos [⟨tg, iter, ifs, 0⟩] pos) newDict false (eval iter X.env) (some (assign (.Name y py) X.env))) _ _ s
  refine wpAny_bind (thn (dc_core (Qf := fun _ s1 => SP X pins D .next s1) hc hN I hi ok hg ht hk hv hs h fun L C s1 m H1 I1 q hn f => ?_) fun _ s1 z => wpAny_pure (wpAny_pure z))
  show wpAny _ _ (assign (.Name y py) X.env (.ref L)) _ _ _
  obtain ⟨f0, f1, f2, f3, f4, f5⟩ := f
  refine wpAny_assign_Name (store_ok2 (v := V.ref L) I1 hN hy (.inl hyl) rfl (fun s2 I2 ⟨a, sb, ha⟩ => ⟨m, hn.sameBut sb ?_, fun h3 sb3 => ?_⟩) (.inr hyl))
  · rcases ha with z | z
    · exact z ▸ f1
    · exact fun e => f4 y a z e.symm
  · exact ⟨_, H1, I2.turned (t' := s2.toks) (fun b o hb e => (sb3.2 b hb).trans e) f0 f1 f3 f4 f5, q⟩
theorem swD_true {kx vx : Expr} {gs : List Comprehension} {scope : Scope} {pos py : Pos} {y : Str} {l : Nat} {env : Env} (hk : env.scope.kind = .function) (hy : env.scope.names.lookup y = some .local) (hl : (py.line == pos.line) = true)
    (ha : (scope.names.any fun (n, k) => n == y && (k == .local || k == .cell)) = false) : swapsWith (.DictComp kx vx gs scope pos) (some (.Name y py)) l env = pure true := by
  have e1 : env.kindOf y = some .local := hy
  have e2 : env.blockKind = .function := by unfold Env.blockKind; rw [hk]; rfl
  unfold swapsWith
  simp only [e2, e1, ha, Expr.pos, hl]
  rfl
end
end Far

namespace Far
open PySem PySem.Spec PyProof.Rows L2
open C8 (pss_cut tCut)
open SX (S)
structure TxtW (mg : Str → Option Value) : Prop where
  tuple : mg "tuple" = none
/-! ### the ties of each place -/
def pairD (x : Nm × Int) : PyData := .tuple [.str (S x.1), .int x.2]
theorem dt_pairD {H : Hp} {v : V} {x : Nm × Int} (h : Dt H v (pairD x)) : ∃ t : Addr, v = .ref t ∧ H t = some (.tup [.str (S x.1), .int x.2]) := by
  obtain ⟨t, a, b, rfl, ht, h1, h2⟩ := dt_pair h fun l z => nomatch z
  cases h1
  cases h2
  exact ⟨t, rfl, ht⟩
/-- at D: for each place a list of its own, of the places tied to it with the ties' lengths -/
structure BesideAt (H : Hp) (D : Addr) (pl : List Nm) (ad : Nm → Addr) (nb : Nm → List (Nm × Int)) : Prop where
  dict : H D = some (.dK (dkm pl fun l => .ref (ad l)))
  each : ∀ l ∈ pl, ∃ vs, H (ad l) = some (.lst vs) ∧ DtAll H vs ((nb l).map pairD)
  inj : ∀ l ∈ pl, ∀ m ∈ pl, ad l = ad m → l = m
def nbAdd (nb : Nm → List (Nm × Int)) (a : Nm) (x : Nm × Int) : Nm → List (Nm × Int) := fun l => if l = a then nb l ++ [x] else nb l
theorem BesideAt.keep {H H' : Hp} {D : Addr} {pl : List Nm} {ad : Nm → Addr} {nb : Nm → List (Nm × Int)} (b : BesideAt H D pl ad nb) (s : Same H H') : BesideAt H' D pl ad nb :=
  ⟨s _ _ b.dict, fun l hl => let ⟨vs, h1, h2⟩ := b.each l hl; ⟨vs, s _ _ h1, DtAll.keep (TK.of s) h2⟩, b.inj⟩
theorem BesideAt.ne {H : Hp} {D : Addr} {pl : List Nm} {ad : Nm → Addr} {nb : Nm → List (Nm × Int)} (b : BesideAt H D pl ad nb) {l : Nm} (hl : l ∈ pl) : ad l ≠ D := by
  obtain ⟨vs, h, _⟩ := b.each l hl
  exact ne_of h b.dict (by intro z; cases z)
theorem BesideAt.add {H : Hp} {D : Addr} {pl : List Nm} {ad : Nm → Addr} {nb : Nm → List (Nm × Int)} (b : BesideAt H D pl ad nb) {a : Nm} (ha : a ∈ pl) {x : Nm × Int} {v : V} {vs : List V} (hv : Dt H v (pairD x)) (hvs : H (ad a) = some (.lst vs)) :
    BesideAt (upd H (ad a) (.lst (vs ++ [v]))) D pl ad (nbAdd nb a x) := by
  have tk : TK H (upd H (ad a) (.lst (vs ++ [v]))) := TK.mut hvs
  refine ⟨by rw [upd_ne (b.ne ha).symm]; exact b.dict, fun l hl => ?_, b.inj⟩
  by_cases e : l = a
  · subst e
    obtain ⟨ws, h1, h2⟩ := b.each l hl
    rw [hvs] at h1
    cases h1
    refine ⟨_, upd_same, ?_⟩
    unfold nbAdd
    rw [if_pos rfl, List.map_append]
    exact DtAll.app (DtAll.keep tk h2) (.cons (Dt.keep tk hv) .nil)
  · obtain ⟨ws, h1, h2⟩ := b.each l hl
    refine ⟨ws, by rw [upd_ne (fun z => e (b.inj l hl a ha z))]; exact h1, ?_⟩
    unfold nbAdd
    rw [if_neg e]
    exact DtAll.keep tk h2
/-- the ties of a place, as the program takes them down -/
def nbOf : List Tie → Nm → List (Nm × Int) := List.foldl (fun nb e => nbAdd (nbAdd nb e.1 (e.2.1, e.2.2)) e.2.1 (e.1, e.2.2)) (fun _ => [])
theorem nbOf_snoc (ts : List Tie) (e : Tie) : nbOf (ts ++ [e]) = nbAdd (nbAdd (nbOf ts) e.1 (e.2.1, e.2.2)) e.2.1 (e.1, e.2.2) := by
  unfold nbOf
  rw [List.foldl_append]
  rfl
theorem list_rec_snoc {α : Type} {P : List α → Prop} (h0 : P []) (h1 : ∀ l x, P l → P (l ++ [x])) : ∀ l, P l := by
  intro l
  have : ∀ r : List α, P r.reverse := by
    intro r
    induction r with
    | nil => exact h0
    | cons x r ih =>
      rw [List.reverse_cons]
      exact h1 _ _ ih
  have q := this l.reverse
  rwa [List.reverse_reverse] at q
theorem nbAdd_mem {nb : Nm → List (Nm × Int)} {a l : Nm} {x y : Nm × Int} : y ∈ nbAdd nb a x l ↔ y ∈ nb l ∨ (l = a ∧ y = x) := by
  unfold nbAdd
  by_cases e : l = a
  · rw [if_pos e, List.mem_append, List.mem_singleton]
    simp [e]
  · rw [if_neg e]
    simp [e]
theorem nbOf_adj (ts : List Tie) : ∀ (l x : Nm) (k : Int), (x, k) ∈ nbOf ts l ↔ Adj ts l x k := by
  induction ts using list_rec_snoc with
  | h0 =>
    intro l x k
    constructor
    · intro h
      cases h
    · intro h
      rcases h with h | h <;> cases h
  | h1 ts e ih =>
    intro l x k
    rw [nbOf_snoc, nbAdd_mem, nbAdd_mem, ih]
    obtain ⟨a, b, m⟩ := e
    constructor
    · rintro ((h | ⟨h1, h2⟩) | ⟨h1, h2⟩)
      · exact h.elim (fun z => .inl (List.mem_append_left _ z)) fun z => .inr (List.mem_append_left _ z)
      · cases h2
        exact .inl (by rw [h1]; simp)
      · cases h2
        exact .inr (by rw [h1]; simp)
    · rintro (h | h) <;> rcases List.mem_append.mp h with z | z
      · exact .inl (.inl (.inl z))
      · have z := List.mem_singleton.mp z
        cases z
        exact .inl (.inr ⟨rfl, rfl⟩)
      · exact .inl (.inl (.inr z))
      · have z := List.mem_singleton.mp z
        cases z
        exact .inr ⟨rfl, rfl⟩
theorem nbAdd_len {nb : Nm → List (Nm × Int)} {a l : Nm} {x : Nm × Int} : (nbAdd nb a x l).length ≤ (nb l).length + 1 := by
  unfold nbAdd
  split
  · rw [List.length_append]
    exact Nat.le_refl _
  · omega
theorem nbOf_len (ts : List Tie) : ∀ l, (nbOf ts l).length ≤ 2 * ts.length := by
  induction ts using list_rec_snoc with
  | h0 => intro l; exact Nat.zero_le _
  | h1 ts e ih =>
    intro l
    rw [nbOf_snoc, List.length_append, List.length_singleton]
    have h1 := nbAdd_len (nb := nbAdd (nbOf ts) e.1 (e.2.1, e.2.2)) (a := e.2.1) (l := l) (x := (e.1, e.2.2))
    have h2 := nbAdd_len (nb := nbOf ts) (a := e.1) (l := l) (x := (e.2.1, e.2.2))
    have h3 := ih l
    omega
/-- another object changes -/
theorem BesideAt.off {H : Hp} {D g : Addr} {o : HO} {pl : List Nm} {ad : Nm → Addr} {nb : Nm → List (Nm × Int)} (b : BesideAt H D pl ad nb) (tk : TK H (upd H g o)) (n : D ≠ g) (na : ∀ l ∈ pl, ad l ≠ g) : BesideAt (upd H g o) D pl ad nb :=
  ⟨by rw [upd_ne n]; exact b.dict, fun l hl => let ⟨vs, h1, h2⟩ := b.each l hl; ⟨vs, by rw [upd_ne (na l hl)]; exact h1, DtAll.keep tk h2⟩, b.inj⟩
abbrev s_ties_of_each : Stmt := topS 7
abbrev N_ties_of_each : List Str := ["tree", "places", "ties", "beside", "one", "other", "length", "place"]
theorem sc_ties_of_each : FnScope N_ties_of_each ["tree"] (defScope s_ties_of_each) := ⟨rfl, rfl, rfl, by decide +kernel, rfl, by decide +kernel, by decide +kernel⟩
section
variable {P : Program} {w : World} {K : PySem.W.Frag} {mg : Str → Option Value} {base : Heap}
def spTies : Sp := fun vs H Q _ => ∃ (v : V) (pl : List Nm) (ts : List Tie), vs = [v] ∧ Dt H v (treeD pl ts) ∧ Fine pl ts ∧ ∀ (H' : Hp) (D : Addr) (ad : Nm → Addr), Same H H' → H D = none → BesideAt H' D pl ad (nbOf ts) → (∀ l ∈ pl, H (ad l) = none) → Q (.ref D) H'
theorem ok_ties_of_each {f : Addr} {fd : FuncData} (F : Fun K "_ties_of_each" "_ties_of_each" s_ties_of_each f fd) : FnOk P w K mg base CX0 1 f fd ["tree"] spTies := by
  refine F.ok sc_ties_of_each (fun vs H Q E h => ?_) (fun cdv A outer s H vs Q E hr h => ?_)
  · obtain ⟨v, pl, ts, rfl, _⟩ := h
    rfl
  · obtain ⟨v, pl, ts, rfl, hd, fine, q⟩ := h
    obtain ⟨t, a, b, vs, rfl, ht, ha, hb, hA⟩ := dt_tree hd
    refine ⟨_, (pss_cons (ps_asg (pv 0) (pg_tup rfl (pgs_cons (pg_name (i := 1) sc_ties_of_each.nd rfl (.inl rfl)) (pgs_cons (pg_name (i := 2) sc_ties_of_each.nd rfl (.inl rfl)) pgs_nil))))
      (pss_cons (ps_setDc (i := 3) (own := [("place", 7)]) (g := gName 7) (tt := tYes) rfl sc_ties_of_each.nd rfl rfl (swD_true rfl rfl rfl (by decide +kernel)) (pi_tup (pv 1)) (blkOk_by (N := N_ties_of_each) (sc := defScope s_ties_of_each) (by decide +kernel)) (fun _ _ _ _ _ => pg_name (i := 7) sc_ties_of_each.nd rfl (Or.inl rfl)) (fun _ _ _ _ _ => pts_nil) (fun _ _ _ _ _ => (pv 7)) (fun _ _ _ _ _ => (pe_lst pa_nil)))
      (pss_cut (ps_for PassesOwn.never rfl (pi_tup (pv 2)) (pg_tup rfl (pgs_cons (pg_name (i := 4) sc_ties_of_each.nd rfl (.inl rfl)) (pgs_cons (pg_name (i := 5) sc_ties_of_each.nd rfl (.inl rfl)) (pgs_cons (pg_name (i := 6) sc_ties_of_each.nd rfl (.inl rfl)) pgs_nil))))
        (pss_cons (ps_expr (pe_bm PySem.F.plainAttrs_list PySem.F.slot_list_append PySem.F.type_list_append mt_append (pe_dget (hu_of hr) (pv 3) (pv 4) (fun _ _ => rfl)) (pa_cons (pe_tup (pa_cons (pv 5) (pa_cons (pv 6) pa_nil))) pa_nil)))
        (pss_one (ps_expr (pe_bm PySem.F.plainAttrs_list PySem.F.slot_list_append PySem.F.type_list_append mt_append (pe_dget (hu_of hr) (pv 3) (pv 5) (fun _ _ => rfl)) (pa_cons (pe_tup (pa_cons (pv 4) (pa_cons (pv 6) pa_nil))) pa_nil))))))
      (pss_one (ps_ret (pv 3)))))), ?_⟩
    have nd := fine.tree.nodup
    have pl1 := fine.len
    have len := fine.tree.len
    have vl : vs.length = ts.length := by
      have := DtAll.len hA
      rwa [List.length_map] at this
    refine ⟨_, rfl, t, _, rfl, SqT.of ht, rfl, _, _, rfl, _, _, rfl, rfl, ?_⟩
    refine ⟨_, rfl, a, rfl, ⟨_, ha.sq⟩, fun D nD => ?_⟩
    have Da : D ≠ a := (ha.ne nD).symm
    refine dc_tup (K := K) (a := a) (xs := (pl.map S).map V.str) (fun i H' => ∃ ad : Nm → Addr, Same H H' ∧ BesideAt H' D (pl.take i) ad (fun _ => []) ∧ ∀ l ∈ pl.take i, H (ad l) = none) ⟨fun _ => 0, same_new (Same.refl H) nD, ⟨upd_same, fun l hl => (by cases hl), fun l hl => (by cases hl)⟩, fun l hl => (by cases hl)⟩ (fun i H' _ hP => ?_) (fun i x H' hi hP => ?_) (fun H' hP => ?_)
    · obtain ⟨_, sm, _⟩ := hP
      exact (ha.same sm).sq
    · obtain ⟨ad, sm, bs, fr⟩ := hP
      rw [List.getElem?_map, List.getElem?_map] at hi
      cases el : pl[i]? with
      | none =>
        rw [el] at hi
        cases hi
      | some l =>
        rw [el] at hi
        have ex : x = .str (S l) := (Option.some.inj hi).symm
        subst ex
        have ln : l ∉ pl.take i := fun hm => by
          obtain ⟨j, hj, ej⟩ := List.mem_take_iff_getElem.mp hm
          obtain ⟨hi', ei⟩ := List.getElem?_eq_some_iff.mp el
          have := (List.getElem_inj nd).mp (ej.trans ei.symm)
          omega
        have et : pl.take (i + 1) = pl.take i ++ [l] := by
          rw [List.take_add_one, el]
          rfl
        refine ⟨rfl, _, rfl, Nat.zero_le _, fun g ng => ?_⟩
        have gD : g ≠ D := (ne_of_none bs.dict ng).symm
        have hD : (upd H' g (.lst [])) D = some (.dK (dkm (pl.take i) fun l => .ref (ad l))) := by
          rw [upd_ne gD.symm]
          exact bs.dict
        refine ⟨_, Sum.inr (S l), rfl, hD, by unfold dkm; rw [List.length_map, List.length_take]; exact sz_lt (by omega), ?_⟩
        rw [dkm_new ln, et]
        have adg : ∀ m ∈ pl.take i, ad m ≠ g := fun m hm => by
          obtain ⟨ws, h1, _⟩ := bs.each m hm
          exact ne_of_none h1 ng
        refine ⟨fun z => if z = l then g else ad z, same_put (same_new sm ng) nD, ⟨?_, fun m hm => ?_, fun m hm m' hm' => ?_⟩, fun m hm => ?_⟩
        · rw [upd_same]
          refine congrArg (fun z => some (HO.dK z)) (dkm_cong fun z _ => ?_)
          by_cases e : z = l <;> simp [e]
        · rcases List.mem_append.mp hm with z | z
          · have ml : m ≠ l := fun e => ln (e ▸ z)
            obtain ⟨ws, h1, h2⟩ := bs.each m z
            refine ⟨ws, ?_, DtAll.keep ((TK.new ng).trans (tkD hD)) h2⟩
            rw [if_neg ml, upd_ne (bs.ne z), upd_ne (adg m z)]
            exact h1
          · rw [List.mem_singleton.mp z, if_pos rfl]
            exact ⟨[], by rw [upd_ne gD]; exact upd_same, .nil⟩
        · rcases List.mem_append.mp hm with z | z <;> rcases List.mem_append.mp hm' with y | y
          · have ml : m ≠ l := fun e => ln (e ▸ z)
            have ml' : m' ≠ l := fun e => ln (e ▸ y)
            rw [if_neg ml, if_neg ml']
            exact bs.inj m z m' y
          · have ml : m ≠ l := fun e => ln (e ▸ z)
            rw [if_neg ml, List.mem_singleton.mp y, if_pos rfl]
            exact fun e => absurd e (adg m z)
          · have ml' : m' ≠ l := fun e => ln (e ▸ y)
            rw [if_neg ml', List.mem_singleton.mp z, if_pos rfl]
            exact fun e => absurd e.symm (adg m' y)
          · rw [List.mem_singleton.mp z, List.mem_singleton.mp y]
            exact fun _ => rfl
        · rcases List.mem_append.mp hm with z | z
          · have ml : m ≠ l := fun e => ln (e ▸ z)
            show H (if m = l then g else ad m) = none
            rw [if_neg ml]
            exact fr m z
          · rw [List.mem_singleton.mp z]
            show H (if l = l then g else ad l) = none
            rw [if_pos rfl]
            exact sm.free ng
    · obtain ⟨ad, sm, bs, fr⟩ := hP
      rw [List.length_map, List.length_map, List.take_length] at bs fr
      refine ⟨fun σ2 H2 => ∃ x4 x5 x6, σ2 = [some (.ref t), some (.ref a), some (.ref b), some (.ref D), x4, x5, x6, none] ∧ Same H H2 ∧ BesideAt H2 D pl ad (nbOf ts), ?_, fun σ2 H2 hM => ?_⟩
      · refine ⟨_, rfl, b, rfl, ⟨_, SqT.of (sm _ _ hb)⟩, for_tup (K := K) (a := b) (xs := vs) (fun i σ2 H2 => ∃ x4 x5 x6, σ2 = [some (.ref t), some (.ref a), some (.ref b), some (.ref D), x4, x5, x6, none] ∧ Same H H2 ∧ BesideAt H2 D pl ad (nbOf (ts.take i)))
          ⟨none, none, none, rfl, sm, bs⟩ (fun i σ2 H2 _ hP => ?_) (fun i x σ2 H2 hi hP => ?_) (fun σ2 H2 hP => ?_)⟩
        · obtain ⟨_, _, _, _, sm, _⟩ := hP
          exact SqT.of (sm _ _ hb)
        · obtain ⟨x4, x5, x6, rfl, sm2, bs2⟩ := hP
          obtain ⟨d, hd, hx⟩ := DtAll.get hA hi
          rw [List.getElem?_map] at hd
          cases ee : ts[i]? with
          | none =>
            rw [ee] at hd
            cases hd
          | some e =>
            rw [ee] at hd
            have ed : d = tieD e := (Option.some.inj hd).symm
            subst ed
            obtain ⟨u, rfl, hu⟩ := dt_tie hx
            have em : e ∈ ts := List.mem_of_getElem? ee
            obtain ⟨i1, i2, k1, k2⟩ := fine.tree.ties e em
            have et : ts.take (i + 1) = ts.take i ++ [e] := by
              rw [List.take_add_one, ee]
              rfl
            have tl : (ts.take i).length ≤ 1000 := by
              rw [List.length_take]
              omega
            refine ⟨u, _, rfl, SqT.of (sm2 _ _ hu), rfl, _, _, rfl, _, _, rfl, _, _, rfl, rfl, ?_⟩
            -- beside[one].append
            obtain ⟨w1, g1, g2⟩ := bs2.each e.1 i1
            have l1 : w1.length = (nbOf (ts.take i) e.1).length := by
              have := DtAll.len g2
              rwa [List.length_map] at this
            have l1' := nbOf_len (ts.take i) e.1
            refine ⟨_, rfl, _, rfl, D, .ref (ad e.1), rfl, by rw [← dkm_get (f := fun l => V.ref (ad l)) i1]; exact DGet.k (k := Sum.inr (S e.1)) bs2.dict, .inl ⟨rfl, _, SqL.of g1⟩, _, rfl, _, rfl, (by show 2 ≤ sizeLine; decide), fun p np => ?_⟩
            have bs3 := bs2.keep (same_new (o := .tup [.str (S e.2.1), .int e.2.2]) (Same.refl H2) np)
            have g1' : (upd H2 p (.tup [.str (S e.2.1), .int e.2.2])) (ad e.1) = some (.lst w1) := by
              rw [upd_ne (ne_of_none g1 np)]
              exact g1
            refine ⟨_, _, _, rfl, rfl, g1', sz_lt (by omega), ?_⟩
            have bs4 := bs3.add i1 (x := (e.2.1, e.2.2)) (v := .ref p) (.tup upd_same (.cons (.str _) (.cons (.int _) .nil))) g1'
            have sm4 : Same H (upd (upd H2 p (.tup [.str (S e.2.1), .int e.2.2])) (ad e.1) (.lst (w1 ++ [.ref p]))) := same_put (same_new sm2 np) (fr _ i1)
            generalize upd (upd H2 p (.tup [.str (S e.2.1), .int e.2.2])) (ad e.1) (.lst (w1 ++ [.ref p])) = H4 at bs4 sm4
            -- beside[other].append
            obtain ⟨w2, g3, g4⟩ := bs4.each e.2.1 i2
            have l2 : w2.length = (nbAdd (nbOf (ts.take i)) e.1 (e.2.1, e.2.2) e.2.1).length := by
              have := DtAll.len g4
              rwa [List.length_map] at this
            have l2' := nbOf_len (ts.take i) e.2.1
            have l2'' := nbAdd_len (nb := nbOf (ts.take i)) (a := e.1) (l := e.2.1) (x := (e.2.1, e.2.2))
            refine ⟨_, rfl, _, rfl, D, .ref (ad e.2.1), rfl, by rw [← dkm_get (f := fun l => V.ref (ad l)) i2]; exact DGet.k (k := Sum.inr (S e.2.1)) bs4.dict, .inl ⟨rfl, _, SqL.of g3⟩, _, rfl, _, rfl, (by show 2 ≤ sizeLine; decide), fun p' np' => ?_⟩
            have bs5 := bs4.keep (same_new (o := .tup [.str (S e.1), .int e.2.2]) (Same.refl H4) np')
            have g3' : (upd H4 p' (.tup [.str (S e.1), .int e.2.2])) (ad e.2.1) = some (.lst w2) := by
              rw [upd_ne (ne_of_none g3 np')]
              exact g3
            refine ⟨_, _, _, rfl, rfl, g3', sz_lt (by omega), ?_⟩
            have bs6 := bs5.add i2 (x := (e.1, e.2.2)) (v := .ref p') (.tup upd_same (.cons (.str _) (.cons (.int _) .nil))) g3'
            refine ⟨_, _, _, rfl, same_put (same_new sm4 np') (fr _ i2), ?_⟩
            rw [et, nbOf_snoc]
            exact bs6
        · obtain ⟨x4, x5, x6, rfl, sm2, bs2⟩ := hP
          rw [vl, List.take_length] at bs2
          exact ⟨_, _, _, rfl, sm2, bs2⟩
      · obtain ⟨x4, x5, x6, rfl, sm2, bs2⟩ := hM
        exact ⟨_, rfl, q H2 D ad sm2 nD bs2 fr⟩
end
end Far

namespace Far
open PySem PySem.Spec PyProof.Rows L2
open C8 (pss_cut tCut)
open SX (S)
/-! ### a walk through a tree: fs come to, st to be gone on from, ex being gone on from -/
abbrev s_walk_from : Stmt := topS 6
abbrev N_walk_from : List Str := ["tree", "start", "beside", "back", "lengths", "ahead", "here", "place", "length"]
theorem sc_walk_from : FnScope N_walk_from ["tree", "start"] (defScope s_walk_from) := ⟨rfl, rfl, rfl, by decide +kernel, rfl, by decide +kernel, by decide +kernel⟩
section
variable {P : Program} {w : World} {K : PySem.W.Frag} {mg : Str → Option Value} {base : Heap}
/-- what a walk from u tells, at q -/
structure Walked (H : Hp) (q bk ln : Addr) (pl : List Nm) (ts : List Tie) (u : Nm) (fs : List Nm) (prev : Nm → Nm) : Prop where
  pair : H q = some (.tup [.ref bk, .ref ln])
  back : H bk = some (.dK (dkm fs fun x => .str (S (prev x))))
  lens : H ln = some (.dK (dkm fs fun x => .int (dist ts u x)))
  all : ∀ x, x ∈ fs ↔ x ∈ pl
  pr : ∀ x ∈ fs, x ≠ u → prev x ∈ fs ∧ path ts u x = path ts u (prev x) ++ [x]
def spWalk : Sp := fun vs H Q _ => ∃ (v : V) (pl : List Nm) (ts : List Tie) (u : Nm), vs = [v, .str (S u)] ∧ Dt H v (treeD pl ts) ∧ Fine pl ts ∧ u ∈ pl ∧ ∀ (H' : Hp) (q bk ln : Addr) (fs : List Nm) (prev : Nm → Nm), Same H H' → Walked H' q bk ln pl ts u fs prev → Q (.ref q) H'
theorem ok_walk_from {f : Addr} {fd : FuncData} (F : Fun K "walk_from" "walk_from" s_walk_from f fd) (C_ties_of_each : Cal P w K mg base 1 "_ties_of_each" spTies) : FnOk P w K mg base CX0 2 f fd ["tree", "start"] spWalk := by
  refine F.ok sc_walk_from (fun vs H Q E h => ?_) (fun cdv A outer s H vs Q E hr h => ?_)
  · obtain ⟨v, pl, ts, u, rfl, _⟩ := h
    rfl
  · obtain ⟨v, pl, ts, u, rfl, hd, fine, hu, q⟩ := h
    refine ⟨_, (pss_cons (ps_set (i := 2) sc_walk_from.nd rfl (.inl rfl) (pe_c C_ties_of_each hr (by decide) rfl (pa_cons (pv 0) pa_nil)))
      (pss_cons (ps_set (i := 3) sc_walk_from.nd rfl (.inl rfl) (pe_disp (pps_cons (pv 1) (pv 1) pps_nil) (by rfl) (by rfl) (fun z => by cases z) (by decide)))
      (pss_cons (ps_set (i := 4) sc_walk_from.nd rfl (.inl rfl) (pe_disp (pps_cons (pv 1) pe_int pps_nil) (by rfl) (by rfl) (fun z => by cases z) (by decide)))
      (pss_cons (ps_set (i := 5) sc_walk_from.nd rfl (.inl rfl) (pe_lst (pa_cons (pv 1) pa_nil)))
      (pss_cut (ps_while PassesOwn.never (pt_truth (pv 5) (by intro _; rfl))
        (pss_cons (ps_set (i := 6) sc_walk_from.nd rfl (.inl rfl) (pe_bm0 PySem.F.plainAttrs_list PySem.F.slot_list_pop PySem.F.type_list_pop mt_pop (pv 5)))
        (pss_one (ps_for PassesOwn.never rfl (pi_list (pe_dget (hu_of hr) (pv 2) (pv 6) (fun _ _ => rfl))) (pg_tup rfl (pgs_cons (pg_name (i := 7) sc_walk_from.nd rfl (.inl rfl)) (pgs_cons (pg_name (i := 8) sc_walk_from.nd rfl (.inl rfl)) pgs_nil)))
          (pss_one (ps_if (pt_cmp (pc_dnotin (hu_of hr) (pv 7) (pv 3)))
            (pss_cons (ps_dput (hu_of hr) (pv 3) (pv 7) (pv 6) rfl)
            (pss_cons (ps_dput (hu_of hr) (pv 4) (pv 7) (pe_op op_add (pe_dget (hu_of hr) (pv 4) (pv 6) (fun _ _ => rfl)) (pv 8)) rfl)
            (pss_one (ps_expr (pe_bm PySem.F.plainAttrs_list PySem.F.slot_list_append PySem.F.type_list_append mt_append (pv 5) (pa_cons (pv 7) pa_nil))))))
            pss_nil))))))
      (pss_one (ps_ret (pe_tup (pa_cons (pv 3) (pa_cons (pv 4) pa_nil)))))))))), ?_⟩
    have tr := fine.tree
    have pl1 := fine.len
    have tl1 := tr.len
    refine ⟨_, rfl, v, pl, ts, rfl, hd, fine, fun H1 D ad S1 nD bs fr => ?_⟩
    -- back, lengths, ahead
    refine fun bk nbk => ⟨_, rfl, _, rfl, upd_same, [(Sum.inr (S u), .str (S u))], rfl, (by decide : 1 ≤ 15), ?_⟩
    rw [upd_upd]
    have S2 := same_new (o := .dK (mergeK [] [((Sum.inr (S u) : Key), V.str (S u))])) S1 nbk
    have bs2 := bs.keep (same_new (o := .dK (mergeK [] [((Sum.inr (S u) : Key), V.str (S u))])) (Same.refl H1) nbk)
    refine fun ln nln => ⟨_, rfl, upd_same, [(Sum.inr (S u), .int 0)], rfl, (by decide : 1 ≤ 15), ?_⟩
    rw [upd_upd]
    have S3 := same_new (o := .dK (mergeK [] [((Sum.inr (S u) : Key), V.int 0)])) S2 nln
    have bs3 := bs2.keep (same_new (o := .dK (mergeK [] [((Sum.inr (S u) : Key), V.int 0)])) (Same.refl _) nln)
    refine ⟨_, rfl, (by show 1 ≤ sizeLine; decide), fun ah nah => ?_⟩
    have S4 := same_new (o := .lst [.str (S u)]) S3 nah
    have bs4 := bs3.keep (same_new (o := .lst [.str (S u)]) (Same.refl _) nah)
    have bkln : bk ≠ ln := ne_of_none upd_same nln
    have bkah : bk ≠ ah := ne_of_none (by rw [upd_ne bkln]; exact upd_same) nah
    have lnah : ln ≠ ah := ne_of_none upd_same nah
    have Dbk : D ≠ bk := ne_of_none bs.dict nbk
    have Dln : D ≠ ln := ne_of_none bs2.dict nln
    have Dah : D ≠ ah := ne_of_none bs3.dict nah
    have bk0 : H bk = none := S1.free nbk
    have ln0 : H ln = none := S2.free nln
    have ah0 : H ah = none := S3.free nah
    have adbk : ∀ l ∈ pl, ad l ≠ bk := fun l hl => let ⟨_, h1, _⟩ := bs.each l hl; ne_of_none h1 nbk
    have adln : ∀ l ∈ pl, ad l ≠ ln := fun l hl => let ⟨_, h1, _⟩ := bs2.each l hl; ne_of_none h1 nln
    have adah : ∀ l ∈ pl, ad l ≠ ah := fun l hl => let ⟨_, h1, _⟩ := bs3.each l hl; ne_of_none h1 nah
    have hbk : (upd (upd (upd H1 bk (.dK (mergeK [] [((Sum.inr (S u) : Key), V.str (S u))]))) ln (.dK (mergeK [] [((Sum.inr (S u) : Key), V.int 0)]))) ah (.lst [.str (S u)])) bk = some (.dK (dkm [u] fun x => .str (S u))) := by
      rw [upd_ne bkah, upd_ne bkln]
      exact upd_same
    have hln : (upd (upd (upd H1 bk (.dK (mergeK [] [((Sum.inr (S u) : Key), V.str (S u))]))) ln (.dK (mergeK [] [((Sum.inr (S u) : Key), V.int 0)]))) ah (.lst [.str (S u)])) ln = some (.dK (dkm [u] fun x => .int (dist ts u x))) := by
      rw [upd_ne lnah]
      refine upd_same.trans ?_
      unfold dkm
      rw [List.map_singleton]
      show some (HO.dK [((Sum.inr (S u) : Key), V.int 0)]) = some (HO.dK [((Sum.inr (S u) : Key), V.int (dist ts u u))])
      rw [(tr.dist_self u).1]
    have hah : (upd (upd (upd H1 bk (.dK (mergeK [] [((Sum.inr (S u) : Key), V.str (S u))]))) ln (.dK (mergeK [] [((Sum.inr (S u) : Key), V.int 0)]))) ah (.lst [.str (S u)])) ah = some (.lst (([u].map S).map V.str)) := upd_same
    generalize upd (upd (upd H1 bk (.dK (mergeK [] [((Sum.inr (S u) : Key), V.str (S u))]))) ln (.dK (mergeK [] [((Sum.inr (S u) : Key), V.int 0)]))) ah (.lst [.str (S u)]) = H4 at S4 bs4 hbk hln hah
    refine ⟨fun σ' H' => ∃ (fs : List Nm) (prev : Nm → Nm) (x6 x7 x8 : Option V), σ' = [some v, some (.str (S u)), some (.ref D), some (.ref bk), some (.ref ln), some (.ref ah), x6, x7, x8] ∧ Same H H' ∧ H' bk = some (.dK (dkm fs fun x => .str (S (prev x)))) ∧ H' ln = some (.dK (dkm fs fun x => .int (dist ts u x))) ∧ Wk pl ts u fs [] prev (fun _ => False), ?_, fun σ' H' hM => ?_⟩
    · refine ⟨fun m σ' H' => ∃ (fs st : List Nm) (prev : Nm → Nm) (x6 x7 x8 : Option V), σ' = [some v, some (.str (S u)), some (.ref D), some (.ref bk), some (.ref ln), some (.ref ah), x6, x7, x8] ∧ Same H H' ∧ BesideAt H' D pl ad (nbOf ts) ∧ H' bk = some (.dK (dkm fs fun x => .str (S (prev x)))) ∧ H' ln = some (.dK (dkm fs fun x => .int (dist ts u x))) ∧ H' ah = some (.lst ((st.map S).map V.str)) ∧ Wk pl ts u fs st prev (fun _ => False) ∧ st.length ≤ fs.length ∧ 2 * fs.length + m = 2 * pl.length + st.length,
        ⟨2 * pl.length - 1, [u], [u], fun _ => u, none, none, none, rfl, S4, bs4, hbk, hln, hah, Wk.start tr hu, Nat.le_refl _, by have := List.length_pos_of_mem hu; simp; omega⟩, ?_⟩
      rintro m σ2 H2 ⟨fs, st, prev, x6, x7, x8, rfl, SM, bs5, hbk5, hln5, hah5, wk, sl, em⟩
      refine ⟨_, rfl, _, .inl ⟨_, SqL.of hah5, rfl⟩, ?_⟩
      rcases List.eq_nil_or_concat st with rfl | ⟨st', h, e⟩
      · exact ⟨fs, prev, x6, x7, x8, rfl, SM, hbk5, hln5, wk⟩
      · rw [List.concat_eq_append] at e
        subst e
        have ne : ((st' ++ [h]).map S).map V.str = (st'.map S).map V.str ++ [.str (S h)] := by
          rw [List.map_append, List.map_append]
          rfl
        rw [ne] at hah5 ⊢
        have nb : (!((st'.map S).map V.str ++ [V.str (S h)]).isEmpty) = true := by simp
        rw [nb]
        refine iteT ?_
        obtain ⟨hh, wk1⟩ := wk.pop
        have hpl := wk1.sub h hh
        have fl := nodup_sub_len fs pl wk.nd wk.sub
        rw [List.length_append, List.length_singleton] at em sl
        obtain ⟨ws, hw1, hw2⟩ := bs5.each h hpl
        have wl : ws.length = (nbOf ts h).length := by
          have := DtAll.len hw2
          rwa [List.length_map] at this
        refine ⟨fun σ' H' => ∃ (fs' st'' : List Nm) (prev' : Nm → Nm) (x6 x7 x8 : Option V), σ' = [some v, some (.str (S u)), some (.ref D), some (.ref bk), some (.ref ln), some (.ref ah), x6, x7, x8] ∧ Same H H' ∧ BesideAt H' D pl ad (nbOf ts) ∧ H' bk = some (.dK (dkm fs' fun x => .str (S (prev' x)))) ∧ H' ln = some (.dK (dkm fs' fun x => .int (dist ts u x))) ∧ H' ah = some (.lst ((st''.map S).map V.str)) ∧ Wk pl ts u fs' st'' prev' (fun _ => False) ∧ fs.length ≤ fs'.length ∧ fs'.length + st'.length = fs.length + st''.length, ?_, ?_⟩
        · rintro σ' H' ⟨fs', st'', prev', y6, y7, y8, e1, e2, e3, e4, e5, e6, e7, e8, e9⟩
          have fl' := nodup_sub_len fs' pl e7.nd e7.sub
          exact ⟨2 * pl.length + st''.length - 2 * fs'.length, by omega, fs', st'', prev', y6, y7, y8, e1, e2, e3, e4, e5, e6, e7, by omega, by omega⟩
        · refine ⟨_, rfl, .inl ⟨rfl, _, SqL.of hah5⟩, ah, _, .str (S h), rfl, rfl, hah5, by simp, ?_⟩
          rw [List.dropLast_concat]
          have hbk6 : (upd H2 ah (.lst ((st'.map S).map V.str))) bk = some (.dK (dkm fs fun x => .str (S (prev x)))) := by rw [upd_ne bkah]; exact hbk5
          have hln6 : (upd H2 ah (.lst ((st'.map S).map V.str))) ln = some (.dK (dkm fs fun x => .int (dist ts u x))) := by rw [upd_ne lnah]; exact hln5
          have hw6 : (upd H2 ah (.lst ((st'.map S).map V.str))) (ad h) = some (.lst ws) := by rw [upd_ne (adah h hpl)]; exact hw1
          have SM6 : Same H (upd H2 ah (.lst ((st'.map S).map V.str))) := same_put SM ah0
          have bs6 : BesideAt (upd H2 ah (.lst ((st'.map S).map V.str))) D pl ad (nbOf ts) := bs5.off (TK.mut hah5) Dah adah
          have hah6 : (upd H2 ah (.lst ((st'.map S).map V.str))) ah = some (.lst ((st'.map S).map V.str)) := upd_same
          generalize upd H2 ah (.lst ((st'.map S).map V.str)) = H6 at hbk6 hln6 hw6 SM6 bs6 hah6
          refine ⟨_, rfl, _, rfl, D, .ref (ad h), rfl, by rw [← dkm_get (f := fun l => V.ref (ad l)) hpl]; exact DGet.k (k := Sum.inr (S h)) bs6.dict, ad h, rfl, ⟨_, SqL.of hw6⟩, for_list (K := K) (a := ad h) (xs := ws) (fun i σ' H' => ∃ (fs' st'' : List Nm) (prev' : Nm → Nm) (x7 x8 : Option V), σ' = [some v, some (.str (S u)), some (.ref D), some (.ref bk), some (.ref ln), some (.ref ah), some (.str (S h)), x7, x8] ∧ Same H H' ∧ BesideAt H' D pl ad (nbOf ts) ∧ H' (ad h) = some (.lst ws) ∧ H' bk = some (.dK (dkm fs' fun x => .str (S (prev' x)))) ∧ H' ln = some (.dK (dkm fs' fun x => .int (dist ts u x))) ∧ H' ah = some (.lst ((st''.map S).map V.str)) ∧ Wk pl ts u fs' st'' prev' (fun x => x = h) ∧ fs.length ≤ fs'.length ∧ fs'.length + st'.length = fs.length + st''.length ∧ h ∈ fs' ∧ ∀ p ∈ (nbOf ts h).take i, p.1 ∈ fs')
            ⟨fs, st', prev, x7, x8, rfl, SM6, bs6, hw6, hbk6, hln6, hah6, wk1, Nat.le_refl _, rfl, hh, fun p hp => (by cases hp)⟩ (fun i σ' H' _ hP => ?_) (fun i x σ' H' hi hP => ?_) (fun σ' H' hP => ?_)⟩
          · obtain ⟨_, _, _, _, _, _, _, _, hw, _⟩ := hP
            exact SqL.of hw
          · obtain ⟨fs', st'', prev', y7, y8, rfl, SM7, bs7, hw7, hbk7, hln7, hah7, wk7, le7, em7, hh7, nb7⟩ := hP
            obtain ⟨ws', hw', hA7⟩ := bs7.each h hpl
            rw [hw7] at hw'
            cases hw'
            obtain ⟨d, hd', hx⟩ := DtAll.get hA7 hi
            rw [List.getElem?_map] at hd'
            cases ee : (nbOf ts h)[i]? with
            | none =>
              rw [ee] at hd'
              cases hd'
            | some yk =>
              obtain ⟨y, k⟩ := yk
              rw [ee] at hd'
              have ed : d = pairD (y, k) := (Option.some.inj hd').symm
              subst ed
              obtain ⟨g, rfl, hg⟩ := dt_pairD hx
              have adj : Adj ts h y k := (nbOf_adj ts h y k).mp (List.mem_of_getElem? ee)
              have et : (nbOf ts h).take (i + 1) = (nbOf ts h).take i ++ [(y, k)] := by
                rw [List.take_add_one, ee]
                rfl
              have fl' := nodup_sub_len fs' pl wk7.nd wk7.sub
              have szf : ∀ f : Nm → V, (dkm fs' f).length < sizeLine := fun f => by
                unfold dkm
                rw [List.length_map]
                exact sz_lt (by omega)
              refine ⟨g, _, rfl, SqT.of hg, rfl, _, _, rfl, _, _, rfl, rfl, ?_⟩
              refine ⟨_, rfl, _, rfl, bk, _, rfl, DGet.k (k := Sum.inr (S y)) hbk7, _, rfl, ?_⟩
              rw [dkm_some]
              by_cases hy : y ∈ fs'
              · rw [decide_eq_true hy]
                refine iteF ⟨fs', st'', prev', _, _, rfl, SM7, bs7, hw7, hbk7, hln7, hah7, wk7, le7, em7, hh7, fun p hp => ?_⟩
                rw [et] at hp
                rcases List.mem_append.mp hp with z | z
                · exact nb7 p z
                · rw [List.mem_singleton.mp z]
                  exact hy
              · rw [decide_eq_false hy]
                refine iteT ?_
                obtain ⟨e1, wk8⟩ := wk7.push tr hh7 adj hy
                -- back[place] = here
                refine ⟨_, rfl, _, rfl, _, rfl, bk, _, rfl, DPut.k (k := Sum.inr (S y)) hbk7 (szf _), ?_⟩
                rw [dkm_new hy]
                have SM8 := same_put (o := .dK (dkm (fs' ++ [y]) fun z => if z = y then V.str (S h) else .str (S (prev' z)))) SM7 bk0
                have bs8 := bs7.off (o := .dK (dkm (fs' ++ [y]) fun z => if z = y then V.str (S h) else .str (S (prev' z)))) (tkD hbk7) Dbk adbk
                have hln8 : (upd H' bk (.dK (dkm (fs' ++ [y]) fun z => if z = y then V.str (S h) else .str (S (prev' z))))) ln = some (.dK (dkm fs' fun x => .int (dist ts u x))) := by rw [upd_ne bkln.symm]; exact hln7
                have hah8 : (upd H' bk (.dK (dkm (fs' ++ [y]) fun z => if z = y then V.str (S h) else .str (S (prev' z))))) ah = some (.lst ((st''.map S).map V.str)) := by rw [upd_ne bkah.symm]; exact hah7
                have hw8 : (upd H' bk (.dK (dkm (fs' ++ [y]) fun z => if z = y then V.str (S h) else .str (S (prev' z))))) (ad h) = some (.lst ws) := by rw [upd_ne (adbk h hpl)]; exact hw7
                have hbk8 : (upd H' bk (.dK (dkm (fs' ++ [y]) fun z => if z = y then V.str (S h) else .str (S (prev' z))))) bk = some (.dK (dkm (fs' ++ [y]) fun z => .str (S (if z = y then h else prev' z)))) := by
                  rw [upd_same]
                  exact congrArg (fun z => some (HO.dK z)) (dkm_cong fun z _ => by by_cases q : z = y <;> simp [q])
                generalize upd H' bk (.dK (dkm (fs' ++ [y]) fun z => if z = y then V.str (S h) else .str (S (prev' z)))) = H8 at SM8 bs8 hln8 hah8 hw8 hbk8
                -- lengths[place] = lengths[here] + length
                refine ⟨_, rfl, _, rfl, ln, .int (dist ts u h), rfl, by rw [← dkm_get (f := fun x => V.int (dist ts u x)) hh7]; exact DGet.k (k := Sum.inr (S h)) hln8, _, rfl, _, _, rfl, rfl, _, rfl, _, rfl, ln, _, rfl, DPut.k (k := Sum.inr (S y)) hln8 (szf _), ?_⟩
                rw [dkm_new hy]
                have SM9 := same_put (o := .dK (dkm (fs' ++ [y]) fun z => if z = y then V.int (dist ts u h + k) else .int (dist ts u z))) SM8 ln0
                have bs9 := bs8.off (o := .dK (dkm (fs' ++ [y]) fun z => if z = y then V.int (dist ts u h + k) else .int (dist ts u z))) (tkD hln8) Dln adln
                have hbk9 : (upd H8 ln (.dK (dkm (fs' ++ [y]) fun z => if z = y then V.int (dist ts u h + k) else .int (dist ts u z)))) bk = some (.dK (dkm (fs' ++ [y]) fun z => .str (S (if z = y then h else prev' z)))) := by rw [upd_ne bkln]; exact hbk8
                have hah9 : (upd H8 ln (.dK (dkm (fs' ++ [y]) fun z => if z = y then V.int (dist ts u h + k) else .int (dist ts u z)))) ah = some (.lst ((st''.map S).map V.str)) := by rw [upd_ne lnah.symm]; exact hah8
                have hw9 : (upd H8 ln (.dK (dkm (fs' ++ [y]) fun z => if z = y then V.int (dist ts u h + k) else .int (dist ts u z)))) (ad h) = some (.lst ws) := by rw [upd_ne (adln h hpl)]; exact hw8
                have hln9 : (upd H8 ln (.dK (dkm (fs' ++ [y]) fun z => if z = y then V.int (dist ts u h + k) else .int (dist ts u z)))) ln = some (.dK (dkm (fs' ++ [y]) fun z => .int (dist ts u z))) := by
                  rw [upd_same]
                  refine congrArg (fun z => some (HO.dK z)) (dkm_cong fun z _ => ?_)
                  by_cases q : z = y
                  · rw [if_pos q, q, e1]
                  · rw [if_neg q]
                generalize upd H8 ln (.dK (dkm (fs' ++ [y]) fun z => if z = y then V.int (dist ts u h + k) else .int (dist ts u z))) = H9 at SM9 bs9 hbk9 hah9 hw9 hln9
                -- ahead.append(place)
                have stl : st''.length ≤ 3000 := by omega
                refine ⟨_, rfl, .inl ⟨rfl, _, SqL.of hah9⟩, _, rfl, ah, _, _, rfl, rfl, hah9, by rw [List.length_map, List.length_map]; exact sz_lt (by omega), ?_⟩
                refine ⟨fs' ++ [y], st'' ++ [y], _, _, _, rfl, same_put SM9 ah0, bs9.off (TK.mut hah9) Dah adah, by rw [upd_ne (adah h hpl)]; exact hw9, by rw [upd_ne bkah]; exact hbk9, by rw [upd_ne lnah]; exact hln9, ?_, wk8, by rw [List.length_append]; omega, by rw [List.length_append, List.length_append]; omega, List.mem_append_left _ hh7, fun p hp => ?_⟩
                · rw [upd_same, List.map_append, List.map_append]
                  rfl
                · rw [et] at hp
                  rcases List.mem_append.mp hp with z | z
                  · exact List.mem_append_left _ (nb7 p z)
                  · rw [List.mem_singleton.mp z]
                    exact List.mem_append_right _ (List.mem_singleton.mpr rfl)
          · obtain ⟨fs', st'', prev', y7, y8, rfl, SM7, bs7, hw7, hbk7, hln7, hah7, wk7, le7, em7, hh7, nb7⟩ := hP
            refine ⟨fs', st'', prev', _, _, _, rfl, SM7, bs7, hbk7, hln7, hah7, wk7.shut fun y k ha => ?_, le7, em7⟩
            rw [wl, List.take_length] at nb7
            exact nb7 _ ((nbOf_adj ts h y k).mpr ha)
    · obtain ⟨fs, prev, x6, x7, x8, rfl, SM, hbk5, hln5, wk⟩ := hM
      refine ⟨_, rfl, _, rfl, (by show 2 ≤ sizeLine; decide), fun p np => ?_⟩
      refine q _ p bk ln fs prev (same_new SM np) ⟨upd_same, by rw [upd_ne (ne_of_none hbk5 np)]; exact hbk5, by rw [upd_ne (ne_of_none hln5 np)]; exact hln5, wk.all tr, wk.pr⟩
end
end Far

namespace Far
open PySem PySem.Spec PyProof.Rows L2
open C8 (pss_cut tCut)
open SX (S)
theorem inV_strsT (l : Nm) (ls : List Nm) : inV (.str (S l)) ((ls.map S).map V.str) = decide (l ∈ ls) := inV_strs l ls
theorem pl0_of {H : Hp} {v : V} {pl : List Nm} {ts : List Tie} (h : Dt H v (treeD pl ts)) : ∃ (t a b : Addr), v = .ref t ∧ H t = some (.tup [.ref a, .ref b]) ∧ TupAt H a ((pl.map S).map V.str) := by
  obtain ⟨t, a, b, vs, e, h1, h2, _⟩ := dt_tree h
  exact ⟨t, a, b, e, h1, h2⟩
abbrev s_check_places : Stmt := topS 5
abbrev N_check_places : List Str := ["tree", "names", "name"]
theorem sc_check_places : FnScope N_check_places ["tree", "names"] (defScope s_check_places) := ⟨rfl, rfl, rfl, by decide +kernel, rfl, by decide +kernel, by decide +kernel⟩
section
variable {P : Program} {w : World} {K : PySem.W.Frag} {mg : Str → Option Value} {base : Heap}
def spCheck : Sp := fun vs H Q _ => ∃ (v : V) (n : Addr) (pl ns : List Nm) (ts : List Tie), vs = [v, .ref n] ∧ Dt H v (treeD pl ts) ∧ H n = some (.tup ((ns.map S).map V.str)) ∧ (∀ x ∈ ns, x ∈ pl) ∧ Q .non H
theorem ok_check_places {f : Addr} {fd : FuncData} (F : Fun K "check_places" "check_places" s_check_places f fd) : FnOk P w K mg base CX0 1 f fd ["tree", "names"] spCheck := by
  refine F.ok sc_check_places (fun vs H Q E h => ?_) (fun cdv A outer s H vs Q E hr h => ?_)
  · obtain ⟨v, n, pl, ns, ts, rfl, _⟩ := h
    rfl
  · obtain ⟨v, n, pl, ns, ts, rfl, hd, hn, sub, q⟩ := h
    obtain ⟨t, a, b, rfl, ht, ha⟩ := pl0_of hd
    refine ⟨_, (pss_one (ps_for PassesOwn.never rfl (pi_tup (pv 1)) (pg_name (i := 2) sc_check_places.nd rfl (.inl rfl))
        (pss_one (ps_if (pt_cmpR op_notIn_seq (pv 2) (pe_ix ix_tup (pv 0) pe_int (fun _ _ => rfl)) rfl)
          (pss_one ps_never)
          pss_nil)))), ?_⟩
    refine ⟨_, rfl, n, rfl, ⟨_, SqT.of hn⟩, for_tup (K := K) (a := n) (xs := (ns.map S).map V.str) (fun i σ' H' => (∃ x2, σ' = [some (.ref t), some (.ref n), x2]) ∧ H' = H) ⟨⟨_, rfl⟩, rfl⟩ (fun i σ' H' _ hP => hP.2 ▸ SqT.of hn) (fun i x σ' H' hi hP => ?_) (fun σ' H' hP => hP.2 ▸ q)⟩
    obtain ⟨⟨x2, rfl⟩, rfl⟩ := hP
    obtain ⟨l, hl, rfl⟩ := strs_at (List.mem_of_getElem? hi)
    refine ⟨_, rfl, _, rfl, t, _, 0, .ref a, rfl, rfl, SqT.of ht, atI_nat (j := 0) rfl, a, _, rfl, .inr ha.sq, rfl, flat_strs pl, _, rfl, ?_⟩
    rw [inV_strs, decide_eq_true (sub l hl)]
    exact iteF ⟨⟨_, rfl⟩, rfl⟩
end
abbrev s_lengths_from : Stmt := topS 4
abbrev N_lengths_from : List Str := ["tree", "place", "_", "lengths", "name"]
theorem sc_lengths_from : FnScope N_lengths_from ["tree", "place"] (defScope s_lengths_from) := ⟨rfl, rfl, rfl, by decide +kernel, rfl, by decide +kernel, by decide +kernel⟩
section
variable {P : Program} {w : World} {K : PySem.W.Frag} {mg : Str → Option Value} {base : Heap}
def spLens : Sp := fun vs H Q _ => ∃ (v : V) (pl : List Nm) (ts : List Tie) (u : Nm), vs = [v, .str (S u)] ∧ Dt H v (treeD pl ts) ∧ Fine pl ts ∧ u ∈ pl ∧ ∀ (H' : Hp) (q : Addr), Same H H' → H q = none → H' q = some (.tup (pl.map fun x => .int (dist ts u x))) → Q (.ref q) H'
theorem lens_body {H1 : Hp} {q bk ln : Addr} {pl fs : List Nm} {ts : List Tie} {u : Nm} {prev : Nm → Nm} (W : Walked H1 q bk ln pl ts u fs prev) {x : Nm} (hx : x ∈ pl) {H' : Hp} (s : H' ln = H1 ln) : DGet H' ln (.str (S x)) (some (.int (dist ts u x))) := by
  have e := W.lens
  rw [← s] at e
  have := DGet.k (k := Sum.inr (S x)) e
  rw [dkm_get ((W.all x).mpr hx)] at this
  exact this
theorem ok_lengths_from {f : Addr} {fd : FuncData} (F : Fun K "lengths_from" "lengths_from" s_lengths_from f fd) (T : TxtW mg) (Ccheck_places : Cal P w K mg base 1 "check_places" spCheck) (Cwalk_from : Cal P w K mg base 2 "walk_from" spWalk) : FnOk P w K mg base CX0 3 f fd ["tree", "place"] spLens := by
  refine F.ok sc_lengths_from (fun vs H Q E h => ?_) (fun cdv A outer s H vs Q E hr h => ?_)
  · obtain ⟨v, pl, ts, u, rfl, _⟩ := h
    rfl
  · obtain ⟨v, pl, ts, u, rfl, hd, fine, hu, q⟩ := h
    obtain ⟨t, a, b, rfl, ht, ha⟩ := pl0_of hd
    refine ⟨_, (pss_cons (ps_expr (pe_c Ccheck_places hr (by decide) rfl (pa_cons (pv 0) (pa_cons (pe_tup (pa_cons (pv 1) pa_nil)) pa_nil))))
      (pss_cons (ps_asg (pe_c Cwalk_from hr (by decide) rfl (pa_cons (pv 0) (pa_cons (pv 1) pa_nil))) (pg_tup rfl (pgs_cons (pg_name (i := 2) sc_lengths_from.nd rfl (.inl rfl)) (pgs_cons (pg_name (i := 3) sc_lengths_from.nd rfl (.inr rfl)) pgs_nil))))
      (pss_one (ps_ret (pe_tupleOf (by rfl) T.tuple (pe_lc (own := [("name", 4)]) (g := gName 4) (tt := tYes) rfl sc_lengths_from.nd (pi_tup (pe_ix ix_tup (pv 0) pe_int (fun _ _ => rfl))) (blkOk_by (N := N_lengths_from) (sc := defScope s_lengths_from) (by decide +kernel)) (fun _ _ _ _ _ => pg_name (i := 4) sc_lengths_from.nd rfl (Or.inl rfl)) (fun _ _ _ _ _ => pts_nil) (fun _ _ _ _ _ => (pe_dget (hu_of hr) (pv 3) (pv 4) (fun _ _ => rfl))))))))), ?_⟩
    refine ⟨_, rfl, _, rfl, (by show 1 ≤ sizeLine; decide), fun p np => ?_⟩
    have s1 := same_new (o := .tup [.str (S u)]) (Same.refl H) np
    refine ⟨.ref t, p, pl, [u], ts, rfl, Dt.keep (TK.of s1) hd, upd_same, fun x hx => by rw [List.mem_singleton.mp hx]; exact hu, ?_⟩
    refine ⟨_, rfl, _, rfl, .ref t, pl, ts, u, rfl, Dt.keep (TK.of s1) hd, fine, hu, fun H1 g bk ln fs prev S1 W => ?_⟩
    have s2 := s1.trans S1
    refine ⟨g, _, rfl, SqT.of W.pair, rfl, _, _, rfl, _, _, rfl, rfl, ?_⟩
    refine ⟨_, rfl, t, _, 0, .ref a, rfl, rfl, SqT.of (s2 _ _ ht), atI_nat (j := 0) rfl, a, rfl, ⟨_, (ha.same s2).sq⟩, fun D nD => ?_⟩
    have Da : a ≠ D := (ha.same s2).ne nD
    have Dl : ln ≠ D := ne_of_none W.lens nD
    refine lc_tup (K := K) (a := a) (xs := (pl.map S).map V.str) (fun i H' => H' = upd H1 D (.lst ((pl.take i).map fun x => .int (dist ts u x)))) rfl (fun i H' _ hP => ?_) (fun i x H' hi hP => ?_) (fun H' hP => ?_)
    · rw [hP]
      exact ((ha.same s2).updN Da).sq
    · subst hP
      have pl1 := fine.len
      rw [List.getElem?_map, List.getElem?_map] at hi
      cases el : pl[i]? with
      | none =>
        rw [el] at hi
        cases hi
      | some l =>
        rw [el] at hi
        have ex : x = .str (S l) := (Option.some.inj hi).symm
        subst ex
        refine ⟨rfl, _, rfl, _, rfl, ln, .int (dist ts u l), rfl, lens_body W (List.mem_of_getElem? el) (upd_ne Dl), _, upd_same, by rw [List.length_map, List.length_take]; exact sz_lt (by omega), ?_⟩
        rw [upd_upd, List.take_add_one, el, List.map_append]
        rfl
    · subst hP
      rw [List.length_map, List.length_map, List.take_length]
      have s3 := same_new (o := .lst (pl.map fun x => V.int (dist ts u x))) s2 nD
      refine .inl ⟨D, _, rfl, SqL.of upd_same, fun r nr => ?_⟩
      exact q _ r (same_new s3 nr) (s3.free nr) upd_same
end
end Far

namespace Far
open PySem PySem.Spec PyProof.Rows L2
open C8 (pss_cut tCut)
open SX (S)
abbrev s_law_lengths : Stmt := topS 18
abbrev N_law_lengths : List Str := ["tree", "places", "ties", "found", "place", "far", "waiting", "here", "one", "other", "length", "end", "there"]
theorem sc_law_lengths : FnScope N_law_lengths ["tree"] (defScope s_law_lengths) := ⟨rfl, rfl, rfl, by decide +kernel, rfl, by decide +kernel, by decide +kernel⟩
/-- the lengths from u to those of fs at fa, those to be gone on from at wa, all else as at H0 -/
structure LW (H0 H' : Hp) (fa wa : Addr) (ts : List Tie) (u : Nm) (fs st : List Nm) : Prop where
  same : Same H0 H'
  far : H' fa = some (.dK (dkm fs fun x => .int (dist ts u x)))
  wait : H' wa = some (.lst ((st.map S).map V.str))
theorem LW.ne {H0 H' : Hp} {fa wa : Addr} {ts : List Tie} {u : Nm} {fs st : List Nm} (w : LW H0 H' fa wa ts u fs st) : fa ≠ wa := ne_of w.far w.wait (by intro z; cases z)
theorem LW.new {H0 H' : Hp} {fa wa p : Addr} {o : HO} {ts : List Tie} {u : Nm} {fs st : List Nm} (w : LW H0 H' fa wa ts u fs st) (np : H' p = none) : LW H0 (upd H' p o) fa wa ts u fs st :=
  ⟨same_new w.same np, by rw [upd_ne (ne_of_none w.far np)]; exact w.far, by rw [upd_ne (ne_of_none w.wait np)]; exact w.wait⟩
theorem LW.setW {H0 H' : Hp} {fa wa : Addr} {ts : List Tie} {u : Nm} {fs st st' : List Nm} (w : LW H0 H' fa wa ts u fs st) (n0 : H0 wa = none) : LW H0 (upd H' wa (.lst ((st'.map S).map V.str))) fa wa ts u fs st' :=
  ⟨same_put w.same n0, by rw [upd_ne w.ne]; exact w.far, upd_same⟩
theorem LW.setF {H0 H' : Hp} {fa wa : Addr} {ts : List Tie} {u y : Nm} {n : Int} {fs st : List Nm} (w : LW H0 H' fa wa ts u fs st) (n0 : H0 fa = none) (e : dist ts u y = n) : LW H0 (upd H' fa (.dK (dkm (fs ++ [y]) fun z => if z = y then V.int n else .int (dist ts u z)))) fa wa ts u (fs ++ [y]) st := by
  refine ⟨same_put w.same n0, ?_, by rw [upd_ne w.ne.symm]; exact w.wait⟩
  rw [upd_same]
  refine congrArg (fun z => some (HO.dK z)) (dkm_cong fun z _ => ?_)
  by_cases q : z = y
  · rw [if_pos q, q, e]
  · rw [if_neg q]
/-- the first i ties are gone along from h -/
def NbT (l : List Tie) (h : Nm) (fs : List Nm) : Prop := ∀ e ∈ l, (e.1 = h → e.2.1 ∈ fs) ∧ (e.2.1 = h → e.1 ∈ fs)
theorem NbT.more {l : List Tie} {h y : Nm} {fs : List Nm} (n : NbT l h fs) : NbT l h (fs ++ [y]) := fun e he => ⟨fun z => List.mem_append_left _ ((n e he).1 z), fun z => List.mem_append_left _ ((n e he).2 z)⟩
/-- at D for each of us a list of its own: how far all places are -/
structure RowsAt (H : Hp) (D : Addr) (pl us : List Nm) (ts : List Tie) (ad : Nm → Addr) : Prop where
  all : H D = some (.lst (us.map fun u => .ref (ad u)))
  each : ∀ u ∈ us, H (ad u) = some (.lst (pl.map fun x => .int (dist ts u x)))
  ne : ∀ u ∈ us, ad u ≠ D
theorem RowsAt.keep {H H' : Hp} {D : Addr} {pl us : List Nm} {ts : List Tie} {ad : Nm → Addr} (r : RowsAt H D pl us ts ad) (s : Same H H') : RowsAt H' D pl us ts ad := ⟨s _ _ r.all, fun u hu => s _ _ (r.each u hu), r.ne⟩
section
variable {P : Program} {w : World} {K : PySem.W.Frag} {mg : Str → Option Value} {base : Heap}
def spLengths : Sp := fun vs H Q _ => ∃ (v : V) (pl : List Nm) (ts : List Tie), vs = [v] ∧ Dt H v (treeD pl ts) ∧ Fine pl ts ∧ ∀ (H' : Hp) (D : Addr) (ad : Nm → Addr), Same H H' → H D = none → RowsAt H' D pl pl ts ad → Q (.ref D) H'
theorem ok_lengths {f : Addr} {fd : FuncData} (F : Fun K "_law_lengths" "_law_lengths" s_law_lengths f fd) : FnOk P w K mg base CX0 2 f fd ["tree"] spLengths := by
  refine F.ok sc_law_lengths (fun vs H Q E h => ?_) (fun cdv A outer s H vs Q E hr h => ?_)
  · obtain ⟨v, pl, ts, rfl, _⟩ := h
    rfl
  · obtain ⟨v, pl, ts, rfl, hd, fine, q⟩ := h
    obtain ⟨t, a, b, vs, rfl, ht, ha, hb, hA⟩ := dt_tree hd
    refine ⟨_, (pss_cons (ps_asg (pv 0) (pg_tup rfl (pgs_cons (pg_name (i := 1) sc_law_lengths.nd rfl (.inl rfl)) (pgs_cons (pg_name (i := 2) sc_law_lengths.nd rfl (.inl rfl)) pgs_nil))))
      (pss_cons (ps_set (i := 3) sc_law_lengths.nd rfl (.inl rfl) (pe_lst pa_nil))
      (pss_cut (ps_for PassesOwn.never rfl (pi_tup (pv 1)) (pg_name (i := 4) sc_law_lengths.nd rfl (.inl rfl))
        (pss_cons (ps_set (i := 5) sc_law_lengths.nd rfl (.inr rfl) (pe_disp (pps_cons (pv 4) pe_int pps_nil) (by rfl) (by rfl) (fun z => by cases z) (by decide)))
        (pss_cons (ps_set (i := 6) sc_law_lengths.nd rfl (.inl rfl) (pe_lst (pa_cons (pv 4) pa_nil)))
        (pss_cut (ps_while PassesOwn.never (pt_cmpR (op_neD (hd_of hr (by decide))) (pv 6) (pe_lst pa_nil) (nomark _))
          (pss_cons (ps_set (i := 7) sc_law_lengths.nd rfl (.inl rfl) (pe_bm0 PySem.F.plainAttrs_list PySem.F.slot_list_pop PySem.F.type_list_pop mt_pop (pv 6)))
          (pss_one (ps_for PassesOwn.never rfl (pi_tup (pv 2)) (pg_tup rfl (pgs_cons (pg_name (i := 8) sc_law_lengths.nd rfl (.inl rfl)) (pgs_cons (pg_name (i := 9) sc_law_lengths.nd rfl (.inl rfl)) (pgs_cons (pg_name (i := 10) sc_law_lengths.nd rfl (.inl rfl)) pgs_nil))))
            (pss_one (ps_for PassesOwn.never rfl (pi_tup (pe_tup (pa_cons (pe_tup (pa_cons (pv 8) (pa_cons (pv 9) pa_nil))) (pa_cons (pe_tup (pa_cons (pv 9) (pa_cons (pv 8) pa_nil))) pa_nil)))) (pg_tup rfl (pgs_cons (pg_name (i := 11) sc_law_lengths.nd rfl (.inl rfl)) (pgs_cons (pg_name (i := 12) sc_law_lengths.nd rfl (.inl rfl)) pgs_nil)))
              (pss_one (ps_if (PW.pt (pw_and (pt_cmpR op_eq (pv 11) (pv 7) (nomark _)) (pw_and1 (pt_cmp (pc_dnotin (hu_of hr) (pv 12) (pv 5))))))
                (pss_cons (ps_dput (hu_of hr) (pv 5) (pv 12) (pe_op op_add (pe_dget (hu_of hr) (pv 5) (pv 7) (fun _ _ => rfl)) (pv 10)) rfl)
                (pss_one (ps_expr (pe_bm PySem.F.plainAttrs_list PySem.F.slot_list_append PySem.F.type_list_append mt_append (pv 6) (pa_cons (pv 12) pa_nil)))))
                pss_nil))))))))
        (pss_one (ps_expr (pe_bm PySem.F.plainAttrs_list PySem.F.slot_list_append PySem.F.type_list_append mt_append (pv 3) (pa_cons (pe_lc (own := [("other", 9)]) (g := gName 9) (tt := tYes) rfl sc_law_lengths.nd (pi_tup (pv 1)) (blkOk_by (N := N_law_lengths) (sc := defScope s_law_lengths) (by decide +kernel)) (fun _ _ _ _ _ => pg_name (i := 9) sc_law_lengths.nd rfl (Or.inl rfl)) (fun _ _ _ _ _ => pts_nil) (fun _ _ _ _ _ => (pe_dget (hu_of hr) (pv 5) (pv 9) (fun _ _ => rfl)))) pa_nil))))))))
      (pss_one (ps_ret (pv 3)))))), ?_⟩
    have tr := fine.tree
    have nd := tr.nodup
    have pl1 := fine.len
    have tl1 := tr.len
    have vl : vs.length = ts.length := by
      have := DtAll.len hA
      rwa [List.length_map] at this
    refine ⟨_, rfl, t, _, rfl, SqT.of ht, rfl, _, _, rfl, _, _, rfl, rfl, ?_⟩
    refine ⟨Nat.zero_le _, fun D nD => ?_⟩
    refine ⟨fun σ' H' => ∃ (x4 x5 x6 x7 x8 x9 x10 x11 x12 : Option V) (ad : Nm → Addr), σ' = [some (.ref t), some (.ref a), some (.ref b), some (.ref D), x4, x5, x6, x7, x8, x9, x10, x11, x12] ∧ Same H H' ∧ RowsAt H' D pl pl ts ad, ?_, fun σ' H' hM => ?_⟩
    · refine ⟨_, rfl, a, rfl, ⟨_, (ha.same (same_new (Same.refl H) nD)).sq⟩, for_tup (K := K) (a := a) (xs := (pl.map S).map V.str) (fun i σ' H' => ∃ (x4 x5 x6 x7 x8 x9 x10 x11 x12 : Option V) (ad : Nm → Addr), σ' = [some (.ref t), some (.ref a), some (.ref b), some (.ref D), x4, x5, x6, x7, x8, x9, x10, x11, x12] ∧ Same H H' ∧ RowsAt H' D pl (pl.take i) ts ad)
        ⟨none, none, none, none, none, none, none, none, none, fun _ => 0, rfl, same_new (Same.refl H) nD, ⟨upd_same, fun u hu => (by cases hu), fun u hu => (by cases hu)⟩⟩ (fun i σ' H' _ hP => ?_) (fun i x σ' H' hi hP => ?_) (fun σ' H' hP => ?_)⟩
      · obtain ⟨_, _, _, _, _, _, _, _, _, _, _, sm, _⟩ := hP
        exact (ha.same sm).sq
      · obtain ⟨x4, x5, x6, x7, x8, x9, x10, x11, x12, ad, rfl, SM, rows⟩ := hP
        rw [List.getElem?_map, List.getElem?_map] at hi
        cases el : pl[i]? with
        | none =>
          rw [el] at hi
          cases hi
        | some u =>
          rw [el] at hi
          have ex : x = .str (S u) := (Option.some.inj hi).symm
          subst ex
          have hu : u ∈ pl := List.mem_of_getElem? el
          have un : u ∉ pl.take i := fun hm => by
            obtain ⟨j, hj, ej⟩ := List.mem_take_iff_getElem.mp hm
            obtain ⟨hi', ei⟩ := List.getElem?_eq_some_iff.mp el
            have := (List.getElem_inj nd).mp (ej.trans ei.symm)
            omega
          -- far, waiting
          refine fun fa nfa => ⟨_, rfl, upd_same, [(Sum.inr (S u), .int 0)], rfl, (by decide : 1 ≤ 15), ?_⟩
          rw [upd_upd]
          refine ⟨_, rfl, (by show 1 ≤ sizeLine; decide), fun wa nwa => ?_⟩
          have fw : fa ≠ wa := ne_of_none upd_same nwa
          have wa0 : H' wa = none := by
            rw [upd_ne fw.symm] at nwa
            exact nwa
          have L0 : LW H' (upd (upd H' fa (.dK (mergeK [] [((Sum.inr (S u) : Key), V.int 0)]))) wa (.lst [.str (S u)])) fa wa ts u [u] [u] := by
            refine ⟨same_new (same_new (Same.refl H') nfa) nwa, ?_, upd_same⟩
            rw [upd_ne fw]
            refine upd_same.trans ?_
            unfold dkm
            rw [List.map_singleton]
            show some (HO.dK [((Sum.inr (S u) : Key), V.int 0)]) = some (HO.dK [((Sum.inr (S u) : Key), V.int (dist ts u u))])
            rw [(tr.dist_self u).1]
          generalize upd (upd H' fa (.dK (mergeK [] [((Sum.inr (S u) : Key), V.int 0)]))) wa (.lst [.str (S u)]) = H1 at L0
          -- the walk
          refine ⟨fun σ2 H2 => ∃ (fs : List Nm) (prev : Nm → Nm) (x7 x8 x9 x10 x11 x12 : Option V), σ2 = [some (.ref t), some (.ref a), some (.ref b), some (.ref D), some (.str (S u)), some (.ref fa), some (.ref wa), x7, x8, x9, x10, x11, x12] ∧ LW H' H2 fa wa ts u fs [] ∧ Wk pl ts u fs [] prev (fun _ => False), ?_, fun σ2 H2 hM => ?_⟩
          · refine ⟨fun m σ2 H2 => ∃ (fs st : List Nm) (prev : Nm → Nm) (x7 x8 x9 x10 x11 x12 : Option V), σ2 = [some (.ref t), some (.ref a), some (.ref b), some (.ref D), some (.str (S u)), some (.ref fa), some (.ref wa), x7, x8, x9, x10, x11, x12] ∧ LW H' H2 fa wa ts u fs st ∧ Wk pl ts u fs st prev (fun _ => False) ∧ st.length ≤ fs.length ∧ 2 * fs.length + m = 2 * pl.length + st.length,
              ⟨2 * pl.length - 1, [u], [u], fun _ => u, x7, x8, x9, x10, x11, x12, rfl, L0, Wk.start tr hu, Nat.le_refl _, by have := List.length_pos_of_mem hu; simp; omega⟩, ?_⟩
            rintro m σ2 H2 ⟨fs, st, prev, x7, x8, x9, x10, x11, x12, rfl, L2', wk, sl, em⟩
            refine ⟨_, rfl, Nat.zero_le _, fun p2 np2 => ?_⟩
            have L3 := L2'.new (o := .lst []) np2
            have ok : ∀ l ∈ st, NameOk l := fun l hl => fine.ok l (wk.sub l (wk.sti l hl))
            refine ⟨_, _, .lst (SqL.of L3.wait) (dp_strs _ _ st), .lst (SqL.of upd_same) .nil, shaped_strs ok, rfl, _, rfl, ?_⟩
            refine ite2 (fun e1 => ?_) (fun e1 => ?_)
            · rcases List.eq_nil_or_concat st with rfl | ⟨st', h, e⟩
              · exact absurd e1 (by decide)
              rw [List.concat_eq_append] at e
              subst e
              obtain ⟨hh, wk1⟩ := wk.pop
              have fl := nodup_sub_len fs pl wk.nd wk.sub
              rw [List.length_append, List.length_singleton] at em sl
              refine ⟨fun σ' H'' => ∃ (fs' st'' : List Nm) (prev' : Nm → Nm) (x7 x8 x9 x10 x11 x12 : Option V), σ' = [some (.ref t), some (.ref a), some (.ref b), some (.ref D), some (.str (S u)), some (.ref fa), some (.ref wa), x7, x8, x9, x10, x11, x12] ∧ LW H' H'' fa wa ts u fs' st'' ∧ Wk pl ts u fs' st'' prev' (fun _ => False) ∧ fs.length ≤ fs'.length ∧ fs'.length + st'.length = fs.length + st''.length, ?_, ?_⟩
              · rintro σ' H'' ⟨fs', st'', prev', y7, y8, y9, y10, y11, y12, e1, e2, e7, e8, e9⟩
                have fl' := nodup_sub_len fs' pl e7.nd e7.sub
                exact ⟨2 * pl.length + st''.length - 2 * fs'.length, by omega, fs', st'', prev', y7, y8, y9, y10, y11, y12, e1, e2, e7, by omega, by omega⟩
              have hw := L3.wait
              have ne : ((st' ++ [h]).map S).map V.str = (st'.map S).map V.str ++ [.str (S h)] := by
                rw [List.map_append, List.map_append]
                rfl
              rw [ne] at hw
              refine ⟨_, rfl, .inl ⟨rfl, _, SqL.of hw⟩, wa, _, .str (S h), rfl, rfl, hw, by simp, ?_⟩
              rw [List.dropLast_concat]
              have L4 := L3.setW (st' := st') wa0
              generalize upd (upd H2 p2 (.lst [])) wa (.lst ((st'.map S).map V.str)) = H4 at L4
              -- the ties
              refine ⟨_, rfl, b, rfl, ⟨_, SqT.of (L4.same _ _ (SM _ _ hb))⟩, for_tup (K := K) (a := b) (xs := vs) (fun i σ' H'' => ∃ (fs' st'' : List Nm) (prev' : Nm → Nm) (x8 x9 x10 x11 x12 : Option V), σ' = [some (.ref t), some (.ref a), some (.ref b), some (.ref D), some (.str (S u)), some (.ref fa), some (.ref wa), some (.str (S h)), x8, x9, x10, x11, x12] ∧ LW H' H'' fa wa ts u fs' st'' ∧ Wk pl ts u fs' st'' prev' (fun x => x = h) ∧ fs.length ≤ fs'.length ∧ fs'.length + st'.length = fs.length + st''.length ∧ h ∈ fs' ∧ NbT (ts.take i) h fs')
                ⟨fs, st', prev, x8, x9, x10, x11, x12, rfl, L4, wk1, Nat.le_refl _, rfl, hh, fun e he => (by cases he)⟩ (fun i σ' H'' _ hP => ?_) (fun i x σ' H'' hi hP => ?_) (fun σ' H'' hP => ?_)⟩
              · obtain ⟨_, _, _, _, _, _, _, _, _, L5, _⟩ := hP
                exact SqT.of (L5.same _ _ (SM _ _ hb))
              · obtain ⟨fs', st'', prev', y8, y9, y10, y11, y12, rfl, L5, wk5, le5, em5, hh5, nb5⟩ := hP
                obtain ⟨d, hd', hx⟩ := DtAll.get hA hi
                rw [List.getElem?_map] at hd'
                cases ee : ts[i]? with
                | none =>
                  rw [ee] at hd'
                  cases hd'
                | some e =>
                  rw [ee] at hd'
                  have ed : d = tieD e := (Option.some.inj hd').symm
                  subst ed
                  obtain ⟨g, rfl, hg⟩ := dt_tie hx
                  have hem : e ∈ ts := List.mem_of_getElem? ee
                  have et : ts.take (i + 1) = ts.take i ++ [e] := by
                    rw [List.take_add_one, ee]
                    rfl
                  refine ⟨g, _, rfl, SqT.of (L5.same _ _ (SM _ _ hg)), rfl, _, _, rfl, _, _, rfl, _, _, rfl, rfl, ?_⟩
                  -- the two ways about
                  refine ⟨_, rfl, _, rfl, (by show 2 ≤ sizeLine; decide), fun c1 nc1 => ?_⟩
                  have L6 := L5.new (o := .tup [.str (S e.1), .str (S e.2.1)]) nc1
                  refine ⟨_, rfl, _, rfl, (by show 2 ≤ sizeLine; decide), fun c2 nc2 => ?_⟩
                  have L7 := L6.new (o := .tup [.str (S e.2.1), .str (S e.1)]) nc2
                  refine ⟨(by show 2 ≤ sizeLine; decide), fun c3 nc3 => ?_⟩
                  have L8 := L7.new (o := .tup [.ref c1, .ref c2]) nc3
                  have h1 : (upd (upd (upd H'' c1 (.tup [.str (S e.1), .str (S e.2.1)])) c2 (.tup [.str (S e.2.1), .str (S e.1)])) c3 (.tup [.ref c1, .ref c2])) c1 = some (.tup [.str (S e.1), .str (S e.2.1)]) := ((TK.new nc2).trans (TK.new nc3)).tup _ _ upd_same
                  have h2 : (upd (upd (upd H'' c1 (.tup [.str (S e.1), .str (S e.2.1)])) c2 (.tup [.str (S e.2.1), .str (S e.1)])) c3 (.tup [.ref c1, .ref c2])) c2 = some (.tup [.str (S e.2.1), .str (S e.1)]) := (TK.new nc3).tup _ _ upd_same
                  have h3 : (upd (upd (upd H'' c1 (.tup [.str (S e.1), .str (S e.2.1)])) c2 (.tup [.str (S e.2.1), .str (S e.1)])) c3 (.tup [.ref c1, .ref c2])) c3 = some (.tup [.ref c1, .ref c2]) := upd_same
                  generalize upd (upd (upd H'' c1 (.tup [.str (S e.1), .str (S e.2.1)])) c2 (.tup [.str (S e.2.1), .str (S e.1)])) c3 (.tup [.ref c1, .ref c2]) = H8 at L8 h1 h2 h3
                  refine ⟨c3, rfl, ⟨_, SqT.of h3⟩, for_tup (K := K) (a := c3) (xs := [.ref c1, .ref c2]) (fun j σ' H9 => ∃ (fs' st'' : List Nm) (prev' : Nm → Nm) (x11 x12 : Option V), σ' = [some (.ref t), some (.ref a), some (.ref b), some (.ref D), some (.str (S u)), some (.ref fa), some (.ref wa), some (.str (S h)), some (.str (S e.1)), some (.str (S e.2.1)), some (.int e.2.2), x11, x12] ∧ LW H' H9 fa wa ts u fs' st'' ∧ TK H8 H9 ∧ Wk pl ts u fs' st'' prev' (fun x => x = h) ∧ fs.length ≤ fs'.length ∧ fs'.length + st'.length = fs.length + st''.length ∧ h ∈ fs' ∧ NbT (ts.take i) h fs' ∧ (1 ≤ j → e.1 = h → e.2.1 ∈ fs') ∧ (2 ≤ j → e.2.1 = h → e.1 ∈ fs'))
                    ⟨fs', st'', prev', y11, y12, rfl, L8, TK.refl _, wk5, le5, em5, hh5, nb5, fun z => absurd z (by omega), fun z => absurd z (by omega)⟩ (fun j σ' H9 _ hP => ?_) (fun j x σ' H9 hj hP => ?_) (fun σ' H9 hP => ?_)⟩
                  · obtain ⟨_, _, _, _, _, _, _, tk, _⟩ := hP
                    exact SqT.of (tk.tup _ _ h3)
                  · clear wk5 le5 em5 hh5 nb5 L5 L6 L7 L8
                    clear fs' st'' prev'
                    obtain ⟨fs', st'', prev', y11, y12, rfl, L9, tk9, wk9, le9, em9, hh9, nb9, n1, n2⟩ := hP
                    obtain ⟨cc, pp, qq, rfl, hcc, hpq⟩ : ∃ (cc : Addr) (pp qq : Nm), x = .ref cc ∧ H8 cc = some (.tup [.str (S pp), .str (S qq)]) ∧ ((j = 0 ∧ pp = e.1 ∧ qq = e.2.1) ∨ (j = 1 ∧ pp = e.2.1 ∧ qq = e.1)) := by
                      match j, hj with
                      | 0, hj => exact ⟨c1, _, _, (Option.some.inj hj).symm, h1, .inl ⟨rfl, rfl, rfl⟩⟩
                      | 1, hj => exact ⟨c2, _, _, (Option.some.inj hj).symm, h2, .inr ⟨rfl, rfl, rfl⟩⟩
                    have adj : Adj ts pp qq e.2.2 := by
                      rcases hpq with ⟨_, z1, z2⟩ | ⟨_, z1, z2⟩ <;> rw [z1, z2]
                      · exact .inl hem
                      · exact .inr hem
                    have fl' := nodup_sub_len fs' pl wk9.nd wk9.sub
                    have szf : ∀ f : Nm → V, (dkm fs' f).length < sizeLine := fun f => by
                      unfold dkm
                      rw [List.length_map]
                      exact sz_lt (by omega)
                    -- what is known behind the turn, once qq is come to if pp is h
                    have nx : ∀ fs2 : List Nm, (∀ x ∈ fs', x ∈ fs2) → (pp = h → qq ∈ fs2) → NbT (ts.take i) h fs2 ∧ (1 ≤ j + 1 → e.1 = h → e.2.1 ∈ fs2) ∧ (2 ≤ j + 1 → e.2.1 = h → e.1 ∈ fs2) := fun fs2 sub hq => by
                      refine ⟨fun e' he' => ⟨fun z => sub _ ((nb9 e' he').1 z), fun z => sub _ ((nb9 e' he').2 z)⟩, fun _ z => ?_, fun z2 z => ?_⟩
                      · rcases hpq with ⟨j0, z1, z2⟩ | ⟨j1, z1, z2⟩
                        · rw [← z2]
                          exact hq (z1.trans z)
                        · exact sub _ (n1 (by omega) z)
                      · rcases hpq with ⟨j0, z1, z2'⟩ | ⟨j1, z1, z2'⟩
                        · omega
                        · rw [← z2']
                          exact hq (z1.trans z)
                    refine ⟨cc, _, rfl, SqT.of (tk9.tup _ _ hcc), rfl, _, _, rfl, _, _, rfl, rfl, ?_⟩
                    refine ⟨_, rfl, _, rfl, rfl, _, rfl, ?_⟩
                    refine ite2 (fun z1 => ?_) (fun z1 => ?_)
                    · have ph : pp = h := by
                        have := of_decide_eq_true z1
                        exact SX.S_inj (V.str.inj this)
                      refine ⟨_, rfl, _, rfl, fa, _, rfl, DGet.k (k := Sum.inr (S qq)) L9.far, _, rfl, ?_⟩
                      rw [dkm_some]
                      by_cases hy : qq ∈ fs'
                      · rw [decide_eq_true hy]
                        obtain ⟨k1, k2, k3⟩ := nx fs' (fun _ z => z) fun _ => hy
                        exact iteF ⟨fs', st'', prev', _, _, rfl, L9, tk9, wk9, le9, em9, hh9, k1, k2, k3⟩
                      · rw [decide_eq_false hy]
                        refine iteT ?_
                        rw [ph] at adj
                        obtain ⟨e1, wk8⟩ := wk9.push tr hh9 adj hy
                        refine ⟨_, rfl, _, rfl, fa, .int (dist ts u h), rfl, by rw [← dkm_get (f := fun x => V.int (dist ts u x)) hh9]; exact DGet.k (k := Sum.inr (S h)) L9.far, _, rfl, _, _, rfl, rfl, _, rfl, _, rfl, fa, _, rfl, DPut.k (k := Sum.inr (S qq)) L9.far (szf _), ?_⟩
                        rw [dkm_new hy]
                        have L10 := L9.setF nfa e1
                        have tk10 := tk9.trans (tkD (o := .dK (dkm (fs' ++ [qq]) fun z => if z = qq then V.int (dist ts u h + e.2.2) else .int (dist ts u z))) L9.far)
                        generalize upd H9 fa (.dK (dkm (fs' ++ [qq]) fun z => if z = qq then V.int (dist ts u h + e.2.2) else .int (dist ts u z))) = H10 at L10 tk10
                        have stl : st''.length ≤ 3000 := by omega
                        refine ⟨_, rfl, .inl ⟨rfl, _, SqL.of L10.wait⟩, _, rfl, wa, _, _, rfl, rfl, L10.wait, by rw [List.length_map, List.length_map]; exact sz_lt (by omega), ?_⟩
                        obtain ⟨k1, k2, k3⟩ := nx (fs' ++ [qq]) (fun _ z => List.mem_append_left _ z) fun _ => List.mem_append_right _ (List.mem_singleton.mpr rfl)
                        have ea : (st''.map S).map V.str ++ [V.str (S qq)] = ((st'' ++ [qq]).map S).map V.str := by
                          rw [List.map_append, List.map_append]
                          rfl
                        rw [ea]
                        exact ⟨fs' ++ [qq], st'' ++ [qq], _, _, _, rfl, L10.setW wa0, tk10.trans (TK.mut L10.wait), wk8, by rw [List.length_append]; omega, by rw [List.length_append, List.length_append]; omega, List.mem_append_left _ hh9, k1, k2, k3⟩
                    · have ph : pp ≠ h := fun z => by
                        rw [z] at z1
                        exact z1 (decide_eq_true rfl)
                      obtain ⟨k1, k2, k3⟩ := nx fs' (fun _ z => z) fun z => absurd z ph
                      exact ⟨fs', st'', prev', _, _, rfl, L9, tk9, wk9, le9, em9, hh9, k1, k2, k3⟩
                  · obtain ⟨fs', st'', prev', y11, y12, rfl, L9, tk9, wk9, le9, em9, hh9, nb9, n1, n2⟩ := hP
                    refine ⟨fs', st'', prev', _, _, _, _, _, rfl, L9, wk9, le9, em9, hh9, fun e' he' => ?_⟩
                    rw [et] at he'
                    rcases List.mem_append.mp he' with z | z
                    · exact nb9 e' z
                    · rw [List.mem_singleton.mp z]
                      exact ⟨n1 (by simp), n2 (by simp)⟩
              · obtain ⟨fs', st'', prev', y8, y9, y10, y11, y12, rfl, L5, wk5, le5, em5, hh5, nb5⟩ := hP
                rw [vl, List.take_length] at nb5
                refine ⟨fs', st'', prev', _, _, _, _, _, _, rfl, L5, wk5.shut fun y k hadj => ?_, le5, em5⟩
                rcases hadj with z | z
                · exact (nb5 _ z).1 rfl
                · exact (nb5 _ z).2 rfl
            · have st0 : st = [] := by
                cases st with
                | nil => rfl
                | cons a r => exact absurd rfl e1
              subst st0
              exact ⟨fs, prev, _, _, _, _, _, _, rfl, L3, wk⟩
          · obtain ⟨fs, prev, x7, x8, x9, x10, x11, x12, rfl, L2', wk⟩ := hM
            have wall := wk.all tr
            have ha2 := ha.same (SM.trans L2'.same)
            refine ⟨_, rfl, .inl ⟨rfl, _, SqL.of (L2'.same _ _ rows.all)⟩, _, rfl, a, rfl, ⟨_, ha2.sq⟩, fun R nR => ?_⟩
            have Ra : a ≠ R := ha2.ne nR
            have Rf : fa ≠ R := ne_of_none L2'.far nR
            refine lc_tup (K := K) (a := a) (xs := (pl.map S).map V.str) (fun i H' => H' = upd H2 R (.lst ((pl.take i).map fun x => .int (dist ts u x)))) rfl (fun i H' _ hP => ?_) (fun i x H' hi hP => ?_) (fun H3 hP => ?_)
            · rw [hP]
              exact (ha2.updN Ra).sq
            · subst hP
              rw [List.getElem?_map, List.getElem?_map] at hi
              cases el : pl[i]? with
              | none =>
                rw [el] at hi
                cases hi
              | some l =>
                rw [el] at hi
                have ex : x = .str (S l) := (Option.some.inj hi).symm
                subst ex
                have hl := (wall l).mpr (List.mem_of_getElem? el)
                refine ⟨rfl, _, rfl, _, rfl, fa, .int (dist ts u l), rfl, by rw [← dkm_get (f := fun x => V.int (dist ts u x)) hl]; exact DGet.k (k := Sum.inr (S l)) ((upd_ne Rf).trans L2'.far), _, upd_same, by rw [List.length_map, List.length_take]; exact sz_lt (by omega), ?_⟩
                rw [upd_upd, List.take_add_one, el, List.map_append]
                rfl
            · subst hP
              rw [List.length_map, List.length_map, List.take_length]
              have s3 := same_new (o := .lst (pl.map fun x => V.int (dist ts u x))) L2'.same nR
              have rows3 := rows.keep s3
              have DR : D ≠ R := ne_of_none (L2'.same _ _ rows.all) nR
              refine ⟨D, _, _, rfl, rfl, rows3.all, by rw [List.length_map, List.length_take]; exact sz_lt (by omega), ?_⟩
              have et : pl.take (i + 1) = pl.take i ++ [u] := by
                rw [List.take_add_one, el]
                rfl
              refine ⟨_, _, _, _, _, _, _, _, _, fun z => if z = u then R else ad z, rfl, same_put (SM.trans s3) nD, ?_⟩
              rw [et]
              refine ⟨?_, fun z hz => ?_, fun z hz => ?_⟩
              · rw [upd_same, List.map_append, List.map_singleton, if_pos rfl]
                refine congrArg (fun z => some (HO.lst (z ++ [V.ref R]))) (List.map_congr_left fun z hz => ?_)
                rw [if_neg (fun (e : z = u) => un (e ▸ hz))]
              · rcases List.mem_append.mp hz with y | y
                · rw [if_neg (fun (e : z = u) => un (e ▸ y)), upd_ne (rows.ne z y)]
                  exact rows3.each z y
                · rw [List.mem_singleton.mp y, if_pos rfl, upd_ne DR.symm]
                  exact upd_same
              · rcases List.mem_append.mp hz with y | y
                · show (if z = u then R else ad z) ≠ D
                  rw [if_neg (fun (e : z = u) => un (e ▸ y))]
                  exact rows.ne z y
                · show (if z = u then R else ad z) ≠ D
                  rw [if_pos (List.mem_singleton.mp y)]
                  exact DR.symm
      · obtain ⟨x4, x5, x6, x7, x8, x9, x10, x11, x12, ad, rfl, SM, rows⟩ := hP
        rw [List.length_map, List.length_map, List.take_length] at rows
        exact ⟨_, _, _, _, _, _, _, _, _, ad, rfl, SM, rows⟩
    · obtain ⟨x4, x5, x6, x7, x8, x9, x10, x11, x12, ad, rfl, SM, rows⟩ := hM
      exact ⟨_, rfl, q H' D ad SM nD rows⟩
end
end Far

namespace Far
open PySem PySem.Spec PyProof.Rows L2
open C8 (pss_cut tCut)
open SX (S)
abbrev Tri := Int × Nm × Nm
def triD (x : Tri) : PyData := .tuple [.int x.1, .str (S x.2.1), .str (S x.2.2)]
/-- the pairs of place i with those behind it -/
noncomputable def rowP (pl : List Nm) (ts : List Tie) (i : Nat) : List Tri := (pl.drop (i + 1)).map fun y => (dist ts (pl.getD i []) y, pl.getD i [], y)
/-- those of the first n places -/
noncomputable def prs (pl : List Nm) (ts : List Tie) (n : Nat) : List Tri := (List.range n).flatMap (rowP pl ts)
/-- all pairs of two places, in order -/
noncomputable def pairsOf (pl : List Nm) (ts : List Tie) : List Tri := prs pl ts pl.length
theorem prs_succ (pl : List Nm) (ts : List Tie) (n : Nat) : prs pl ts (n + 1) = prs pl ts n ++ rowP pl ts n := by
  unfold prs
  rw [List.range_succ, List.flatMap_append, List.flatMap_singleton]
theorem rowP_len (pl : List Nm) (ts : List Tie) (i : Nat) : (rowP pl ts i).length = pl.length - (i + 1) := by
  unfold rowP
  rw [List.length_map, List.length_drop]
theorem prs_len (pl : List Nm) (ts : List Tie) : ∀ n, (prs pl ts n).length ≤ n * pl.length
  | 0 => Nat.zero_le _
  | n + 1 => by
    have ih := prs_len pl ts n
    rw [prs_succ, List.length_append, rowP_len, Nat.succ_mul]
    omega
theorem rowP_at {pl : List Nm} {ts : List Tie} {i j : Nat} {x y : Nm} (hx : pl[i]? = some x) (hy : pl[i + 1 + j]? = some y) : (rowP pl ts i)[j]? = some (dist ts x y, x, y) := by
  have ex : pl.getD i [] = x := by
    show (pl[i]?).getD [] = x
    rw [hx]
    rfl
  unfold rowP
  rw [ex, List.getElem?_map, List.getElem?_drop, hy]
  rfl
end Far

namespace Far
open PySem PySem.Spec PyProof.Rows L2
open C8 (pss_cut tCut)
open SX (S)
abbrev s_law_pairs : Stmt := topS 19
abbrev N_law_pairs : List Str := ["tree", "lengths", "places", "found", "at", "to"]
theorem sc_law_pairs : FnScope N_law_pairs ["tree"] (defScope s_law_pairs) := ⟨rfl, rfl, rfl, by decide +kernel, rfl, by decide +kernel, by decide +kernel⟩
section
variable {P : Program} {w : World} {K : PySem.W.Frag} {mg : Str → Option Value} {base : Heap}
def spPairs : Sp := fun vs H Q _ => ∃ (v : V) (pl : List Nm) (ts : List Tie), vs = [v] ∧ Dt H v (treeD pl ts) ∧ Fine pl ts ∧ pl.length ≤ 100 ∧ ∀ (H' : Hp) (D : Addr) (ws : List V), Same H H' → H D = none → H' D = some (.lst ws) → DtAll H' ws ((pairsOf pl ts).map triD) → Q (.ref D) H'
theorem ok_pairs {f : Addr} {fd : FuncData} (F : Fun K "_law_pairs" "_law_pairs" s_law_pairs f fd) (T : TxtG mg) (C_law_lengths : Cal P w K mg base 2 "_law_lengths" spLengths) : FnOk P w K mg base CX0 3 f fd ["tree"] spPairs := by
  refine F.ok sc_law_pairs (fun vs H Q E h => ?_) (fun cdv A outer s H vs Q E hr h => ?_)
  · obtain ⟨v, pl, ts, rfl, _⟩ := h
    rfl
  · obtain ⟨v, pl, ts, rfl, hd, fine, p100, q⟩ := h
    obtain ⟨t, a, b, vs, rfl, ht, ha, hb, hA⟩ := dt_tree hd
    refine ⟨_, (pss_cons (ps_set (i := 1) sc_law_pairs.nd rfl (.inl rfl) (pe_c C_law_lengths hr (by decide) rfl (pa_cons (pv 0) pa_nil)))
      (pss_cons (ps_set (i := 2) sc_law_pairs.nd rfl (.inl rfl) (pe_ix ix_tup (pv 0) pe_int (fun _ _ => rfl)))
      (pss_cons (ps_set (i := 3) sc_law_pairs.nd rfl (.inl rfl) (pe_lst pa_nil))
      (pss_cut (ps_for PassesOwn.never rfl (pi_range1 (by rfl) T.range (pa_cons (pe_callB call_len_seq (by rfl) T.len bt_len (pa_cons (pv 2) pa_nil)) pa_nil)) (pg_name (i := 4) sc_law_pairs.nd rfl (.inl rfl))
        (pss_one (ps_for PassesOwn.never rfl (pi_range2 (by rfl) T.range (pa_cons (pe_op op_add (pv 4) pe_int) (pa_cons (pe_callB call_len_seq (by rfl) T.len bt_len (pa_cons (pv 2) pa_nil)) pa_nil))) (pg_name (i := 5) sc_law_pairs.nd rfl (.inl rfl))
          (pss_one (ps_expr (pe_bm PySem.F.plainAttrs_list PySem.F.slot_list_append PySem.F.type_list_append mt_append (pv 3) (pa_cons (pe_tup (pa_cons (pe_ix ix_list (pe_ix ix_list (pv 1) (pv 4) (fun _ _ => rfl)) (pv 5) (fun _ _ => rfl)) (pa_cons (pe_ix ix_tup (pv 2) (pv 4) (fun _ _ => rfl)) (pa_cons (pe_ix ix_tup (pv 2) (pv 5) (fun _ _ => rfl)) pa_nil)))) pa_nil)))))))
      (pss_one (ps_ret (pv 3))))))), ?_⟩
    have sqn : ((pl.map S).map V.str).length = pl.length := by rw [List.length_map, List.length_map]
    refine ⟨_, rfl, .ref t, pl, ts, rfl, hd, fine, fun H1 L ad S1 nL rows => ?_⟩
    refine ⟨_, rfl, t, _, 0, .ref a, rfl, rfl, SqT.of (S1 _ _ ht), atI_nat (j := 0) rfl, ?_⟩
    refine ⟨Nat.zero_le _, fun D nD => ?_⟩
    have nD0 : H D = none := S1.free nD
    refine ⟨fun σ' H' => ∃ (x4 x5 : Option V) (ws : List V), σ' = [some (.ref t), some (.ref L), some (.ref a), some (.ref D), x4, x5] ∧ Same H1 H' ∧ H' D = some (.lst ws) ∧ DtAll H' ws ((pairsOf pl ts).map triD), ?_, fun σ' H' hM => ?_⟩
    · have S2 := same_new (o := .lst []) (Same.refl H1) nD
      refine ⟨_, rfl, a, _, rfl, .inr (ha.same (S1.trans S2)).sq, _, rfl, by rw [sqn]; omega, by rw [sqn]; omega, ?_⟩
      refine for_range (lo := 0) (n := (((((pl.map S).map V.str).length : Nat) : Int)).toNat) (fun i σ' H' => ∃ (x4 x5 : Option V) (ws : List V), σ' = [some (.ref t), some (.ref L), some (.ref a), some (.ref D), x4, x5] ∧ Same H1 H' ∧ H' D = some (.lst ws) ∧ DtAll H' ws ((prs pl ts i).map triD)) ⟨none, none, [], rfl, S2, upd_same, .nil⟩ (fun i σ' H' hi hP => ?_) (fun σ' H' hP => ?_)
      · obtain ⟨x4, x5, ws, rfl, SM, hD, hW⟩ := hP
        rw [sqn] at hi
        have ip : i < pl.length := by omega
        have gx : pl[i]? = some pl[i] := List.getElem?_eq_getElem ip
        generalize pl[i] = x at gx
        have hx : x ∈ pl := List.mem_of_getElem? gx
        have ei : (0 : Int) + (i : Int) = (i : Int) := Int.zero_add _
        refine ⟨_, rfl, _, _, rfl, rfl, _, rfl, a, _, rfl, .inr (ha.same (S1.trans SM)).sq, _, _, rfl, ⟨by omega, by omega, by rw [sqn]; omega, by rw [sqn]; omega⟩, ?_⟩
        refine for_range (lo := 0 + (i : Int) + 1) (n := ((((pl.map S).map V.str).length : Int) - (0 + (i : Int) + 1)).toNat) (fun j σ' H' => ∃ (x5 : Option V) (ws : List V), σ' = [some (.ref t), some (.ref L), some (.ref a), some (.ref D), some (.int (0 + (i : Int))), x5] ∧ Same H1 H' ∧ H' D = some (.lst ws) ∧ DtAll H' ws ((prs pl ts i ++ (rowP pl ts i).take j).map triD)) ⟨x5, ws, rfl, SM, hD, by rw [List.take_zero, List.append_nil]; exact hW⟩ (fun j σ' H' hj hP => ?_) (fun σ' H' hP => ?_)
        · obtain ⟨x5, ws, rfl, SM, hD, hW⟩ := hP
          rw [sqn] at hj
          have jp : i + 1 + j < pl.length := by omega
          have gy : pl[i + 1 + j]? = some pl[i + 1 + j] := List.getElem?_eq_getElem jp
          generalize pl[i + 1 + j] = y at gy
          have hy : y ∈ pl := List.mem_of_getElem? gy
          have ej : (0 : Int) + (i : Int) + 1 + (j : Int) = ((i + 1 + j : Nat) : Int) := by omega
          have ei' : (0 : Int) + (i : Int) = ((i : Nat) : Int) := by omega
          have rows2 := rows.keep SM
          have wl : ws.length = (prs pl ts i ++ (rowP pl ts i).take j).length := by
            have := DtAll.len hW
            rwa [List.length_map] at this
          have b1 := prs_len pl ts i
          have b2 : i * pl.length ≤ 100 * 100 := Nat.mul_le_mul (by omega) p100
          rw [List.length_append, List.length_take, rowP_len] at wl
          have sq2 := fun {H'' : Hp} (s : Same H1 H'') => (ha.same (S1.trans s)).sq (K := K)
          have gpx : ((pl.map S).map V.str)[i]? = some (.str (S x)) := by rw [List.getElem?_map, List.getElem?_map, gx]; rfl
          have gpy : ((pl.map S).map V.str)[i + 1 + j]? = some (.str (S y)) := by rw [List.getElem?_map, List.getElem?_map, gy]; rfl
          have gl : (pl.map fun u => V.ref (ad u))[i]? = some (.ref (ad x)) := by rw [List.getElem?_map, gx]; rfl
          have gd : (pl.map fun z => V.int (dist ts x z))[i + 1 + j]? = some (.int (dist ts x y)) := by rw [List.getElem?_map, gy]; rfl
          refine ⟨_, rfl, .inl ⟨rfl, _, SqL.of hD⟩, _, rfl, _, rfl, L, _, 0 + (i : Int), _, rfl, rfl, SqL.of rows2.all, by rw [ei']; exact atI_nat gl, ?_⟩
          refine ⟨_, rfl, ad x, _, 0 + (i : Int) + 1 + (j : Int), _, rfl, rfl, SqL.of (rows2.each x hx), by rw [ej]; exact atI_nat gd, ?_⟩
          refine ⟨_, rfl, _, rfl, a, _, 0 + (i : Int), _, rfl, rfl, sq2 SM, by rw [ei']; exact atI_nat gpx, _, rfl, _, rfl, a, _, 0 + (i : Int) + 1 + (j : Int), _, rfl, rfl, sq2 SM, by rw [ej]; exact atI_nat gpy, (by show 3 ≤ sizeLine; decide), fun e ne => ?_⟩
          have hD2 : (upd H' e (.tup [.int (dist ts x y), .str (S x), .str (S y)])) D = some (.lst ws) := by
            rw [upd_ne (ne_of_none hD ne)]
            exact hD
          refine ⟨D, ws, _, rfl, rfl, hD2, sz_lt (by omega), ?_⟩
          have tk : TK (upd H' e (.tup [.int (dist ts x y), .str (S x), .str (S y)])) (upd (upd H' e (.tup [.int (dist ts x y), .str (S x), .str (S y)])) D (.lst (ws ++ [.ref e]))) := TK.mut hD2
          refine ⟨_, ws ++ [.ref e], rfl, same_put (same_new SM ne) nD, upd_same, ?_⟩
          rw [List.take_add_one, rowP_at gx gy, ← List.append_assoc, List.map_append]
          exact DtAll.app (DtAll.keep ((TK.new ne).trans tk) hW) (.cons (.tup (tk.tup _ _ upd_same) (.cons (.int _) (.cons (.str _) (.cons (.str _) .nil)))) .nil)
        · obtain ⟨x5, ws, rfl, SM, hD, hW⟩ := hP
          refine ⟨_, _, ws, rfl, SM, hD, ?_⟩
          rw [sqn, List.take_of_length_le (by rw [rowP_len]; omega)] at hW
          rw [prs_succ]
          exact hW
      · obtain ⟨x4, x5, ws, rfl, SM, hD, hW⟩ := hP
        rw [sqn] at hW
        exact ⟨x4, x5, ws, rfl, SM, hD, hW⟩
    · obtain ⟨x4, x5, ws, rfl, SM, hD, hW⟩ := hM
      exact ⟨_, rfl, q H' D ws (S1.trans SM) nD0 hD hW⟩
end
end Far

namespace Far
open PySem PySem.Spec PyProof.Rows L2
/-! ### enumerate(t), t a tuple -/
theorem meets_enumT {v : Value} {o : Obj} {H : Heap → Prop} (B : Begins v o H) :
    Meets (Builtin.«enumerate.__new__» ⟨[.type "enumerate", v], []⟩) (fun _ R s => H s.heap ∧
      R (.ok (.ret (.ref (s.heap.push o).objs.size))) { s with heap := (s.heap.push o).push { cls := .type "enumerate", data := .fields #[.none, .bool false, .ref s.heap.objs.size, rawInt 0, .none, .none] } }) :=
  .of_wp fun prog w A R s h => by
    obtain ⟨hp, g, d, tk, os⟩ := s; obtain ⟨h1, h⟩ := h
    have hsub := sub_enumerate
    have q1 : ∀ {A' : Around} {E : Value → Shared → Prop} {Q : Value → Shared → Prop}, Q (.ref hp.objs.size) ⟨hp.push o, g, d, tk, os⟩ → wpAny (model prog w) A' (pyIter v) Q E ⟨hp, g, d, tk, os⟩ :=
      fun q => B.iter prog w _ _ ⟨hp, g, d, tk, os⟩ _ h1 q
    wp_walk using q1
    refine wpAny_stack_any fun st => wpAny_pure ?_
    split
    · rename_i c _ _ _ _ _
      cases (c == Value.type "enumerate")
      · wp_walk using q1
        exact ⟨_, rfl, h⟩
      · wp_walk using q1
        exact ⟨_, rfl, h⟩
    · wp_walk using q1
      exact ⟨_, rfl, h⟩
theorem enumT_begins {prog : Program} {w : World} {A : Around} {E : Value → Shared → Prop} {s : Shared} {v : Value} {o : Obj} {H : Heap → Prop} {Q : Value → Shared → Prop} (B : Begins v o H) (h1 : H s.heap)
    (h : ∀ h', IsEnum h' (s.heap.objs.size + 1) s.heap.objs.size 0 .none → h'.get? s.heap.objs.size = some o → h'.objs.size = s.heap.objs.size + 2 →
      (∀ b o, s.heap.get? b = some o → h'.get? b = some o) → Q (.ref (s.heap.objs.size + 1)) { s with heap := h' }) :
    wpAny (model prog w) A (call (.type "enumerate") [v]) Q E s := by
  refine callType_new F.called_enumerate (by decide) (F.typeCall_enumerate_1 _) (F.newCall_enumerate_1 _) (fun obj => F.args_object_init_2 obj _) F.entry_enumerate_new
    (meets_enumT B) ⟨h1, ?_⟩
  have hz : (s.heap.push o).objs.size = s.heap.objs.size + 1 := Heap.size_push ..
  show _ ∧ _
  rw [hz]
  have he : IsEnum ((s.heap.push o).push { cls := .type "enumerate", data := .fields #[.none, .bool false, .ref s.heap.objs.size, rawInt 0, .none, .none] }) (s.heap.objs.size + 1) s.heap.objs.size 0 .none := by
    have := Heap.get?_push_size (s.heap.push o) (o := { cls := .type "enumerate", data := .fields #[.none, .bool false, .ref s.heap.objs.size, rawInt 0, .none, .none] }) rfl
    rw [hz] at this; exact this
  refine ⟨⟨_, he, rfl⟩, h _ he (Heap.get?_push_of_some _ (Heap.get?_push_size _ B.free)) (by rw [Heap.size_push, hz]) fun b o x => Heap.get?_push_of_some _ (Heap.get?_push_of_some _ x)⟩
/-- the tuple at a, each item in a new pair with its number -/
def Itne (K : PySem.W.Frag) (a : Addr) : It :=
  ⟨fun i H => ∃ (xs : List V) (x : V), SqT K H a xs ∧ xs[i]? = some x,
   fun i H v H' => ∃ T x, v = .ref T ∧ H T = none ∧ H' = upd H T (.tup [.int (i : Nat), x]) ∧ ∀ xs, SqT K H a xs → xs[i]? = some x,
   fun i H => ∃ xs : List V, SqT K H a xs ∧ xs.length ≤ i⟩
theorem turn_enumT {P : Program} {w : World} {K : PySem.W.Frag} {elts : List Expr} {kk : Nat} {tpos : Pos} (a e it : Addr) :
    Turn P w K (.Tuple elts kk tpos) (Itne K a) [e, it] e (fun i h => (∃ o, IsEnum h e it ((i : Nat) : Int) o) ∧ h.IsTupleIter it a i ∧ e ≠ it ∧ a ≠ it) where
  mem := by simp
  obj := fun i h st b hb => by
    obtain ⟨⟨o', he⟩, ⟨o, ho, hc, hd⟩, _⟩ := st
    rcases (show b = e ∨ b = it by simpa using hb) with rfl | rfl
    · exact ⟨_, he, fun v q => nomatch q⟩
    · exact ⟨o, ho, fun v q => by rw [hd] at q; cases q⟩
  keep := fun i h h' ⟨⟨o, he⟩, hi, hne⟩ k => ⟨⟨o, k e (by simp) _ he⟩, hi.at fun o q => k it (by simp) o q, hne⟩
  item := by
    intro X hP hw hK hc i pins s σ H E I hf st hg
    subst hP hw hK
    obtain ⟨⟨old, he⟩, hit, hne, hna⟩ := st
    obtain ⟨xs, x, hq, hx⟩ := hg
    obtain ⟨its, rv, p, hz⟩ := I.tuple hq
    have p' : s.heap.IsTuple a its.toArray := p
    obtain ⟨u, hu, ru⟩ := rv.get hx
    have hel : e < s.heap.objs.size := Heap.lt_size he
    have hil : it < s.heap.objs.size := by
      obtain ⟨_, q, _⟩ := hit
      exact Heap.lt_size q
    have hea : e ∉ [it, a] := by
      intro hm
      rcases List.mem_cons.mp hm with z | z
      · exact hne z
      · have z := List.mem_singleton.mp z
        obtain ⟨o, m, q, _⟩ := p'
        rw [← z, he] at m
        cases m
        have q : Value.type "enumerate" = Value.type "tuple" := q
        exact absurd q (by decide)
    have hlt : i < its.toArray.size := by
      have := (List.getElem?_eq_some_iff.mp hu).1
      simpa using this
    refine wpAny_pyNext_enum_itemC (Draws.tuple (A := X.A.in1) (I.ok.hd hc) it a hna its.toArray) he ⟨hit, p'⟩ hlt hne hea fun x' h' tk hx' ho hst' hT hsz hk => ?_
    have ex : x' = u := by
      have : its.toArray[i]? = some u := by simpa using hu
      exact Option.some.inj (hx'.symm.trans this)
    subst ex
    refine ⟨_, rfl, wpAny_letOwnedTupleGo_enum (s := { s with heap := h', toks := tk + 1 }) ho fun h2 he2 sb => ?_⟩
    have hT2 : h2.get? s.heap.objs.size = some { cls := .type "tuple", data := .seq #[.int (i : Nat) tk, x'] } := (sb.2 _ (Nat.ne_of_gt hel)).trans hT
    have new : ObjOk X.prog X.w (upd H s.heap.objs.size (.tup [.int (i : Nat), x])) h2 s.heap.objs.size (.tup [.int (i : Nat), x]) :=
      ⟨by show 2 ≤ sizeLine; decide, [.int (i : Nat) tk, x'], .cons ⟨_, rfl⟩ (.cons ru .nil), ⟨_, hT2, rfl, _, rfl⟩⟩
    have I1 : Inv X pins σ (upd H s.heap.objs.size (.tup [.int (i : Nat), x])) { s with heap := h2, toks := tk + 1 } :=
      I.turnedNew (ch := [e, it]) (fun b ob hb q => (sb.2 b (fun z => hb (by simp [z]))).trans (hk b ob (fun z => hb (by simp [z])) (fun z => hb (by simp [z])) q)) hf (Nat.le_refl _) new
    refine ⟨.ref s.heap.objs.size, _, I1, rfl, ⟨_, x, rfl, I.hok.fresh (Nat.le_refl _), rfl, fun ys hy => by rw [I.tuple_inj hy hq]; exact hx⟩, ⟨⟨x', ?_⟩, hst'.1.at fun o q => (sb.2 it (Ne.symm hne)).trans q, hne, hna⟩, fun b hb => ?_⟩
    · rw [show ((i + 1 : Nat) : Int) = (i : Nat) + 1 by omega]
      exact he2
    · have hb' : b < s.heap.objs.size := by
        rcases (show b = e ∨ b = it by simpa using hb) with z | z
        · rw [z]; exact hel
        · rw [z]; exact hil
      rw [upd_ne (Nat.ne_of_lt hb')]
      exact (hf b hb).1
  done := by
    intro X hP hw hK hc i pins s σ H E I hf st hg
    subst hP hw hK
    obtain ⟨⟨old, he⟩, hit, hne, hna⟩ := st
    obtain ⟨xs, hq, hx⟩ := hg
    obtain ⟨its, rv, p, hz⟩ := I.tuple hq
    have p' : s.heap.IsTuple a its.toArray := p
    obtain ⟨f0, f1, f2, f3, f4, f5⟩ := hf it (by simp)
    have hl := rv.length
    have D : Draws X.prog X.w X.A.in1 it [it, a] i (fun _ _ => True) (fun j h => (h.IsTupleIter it a j ∧ h.IsTuple a its.toArray) ∧ j = i) :=
      { live := fun _ _ st => let ⟨o, ho, _⟩ := st.1.1; ⟨o, ho⟩
        frame := fun _ _ _ st hk => ⟨⟨st.1.1.at fun o e => hk it (by simp) o e, st.1.2.at fun o e => hk a (by simp) o e⟩, st.2⟩
        item := fun j _ _ _ hj st _ => absurd st.2 (by omega)
        done := fun s Q E st hE => wpAny_nextOf_tuple_end (I.ok.hd hc) st.1.1 st.1.2 (by simp; omega) hE }
    exact wpAny_pyNext_enum_endD D he ⟨⟨hit, p'⟩, rfl⟩ fun h' eb => ⟨rfl, I.turned (t' := s.toks) (fun b o hb q => eb b o hb q) f0 f1 f3 f4 f5⟩
  self := fun A i s Q E st h => by
    obtain ⟨⟨_, he⟩, _⟩ := st
    exact wpAny_pyIter_enum he h
def iEnumT (K : PySem.W.Frag) (ta : TA) : TI := fun σ H R => ta σ H fun vs H1 => ∃ a xs, vs = [.ref a] ∧ SqT K H1 a xs ∧ R (Itne K a) H1
theorem pi_enumT {X : Cx} {e : Expr} {ta : TA} {p pos tpos : Pos} {elts : List Expr} {kk : Nat} (hg : Gl X "enumerate") (hm : X.mg "enumerate" = none) (ha : PA X [e] ta) (hs : starEach [e] X.env = [(false, eval e X.env)] := by rfl) :
    PI X (.Tuple elts kk tpos) (.Call (.Name "enumerate" p) [e] [] pos) (iEnumT X.K ta) := by
  refine ⟨fun pins s σ H R I h => ?_⟩
  refine Call_ (ld_blt I hg hm boot_enumerate (PyProof.Rows.callWith_type1 (thn (ha.run pos pins s σ H _ I h) fun us s1 ⟨vs, H1, I1, r1, q1⟩ => ?_) hs rfl))
  obtain ⟨a, xs, ex, hq, q⟩ := q1
  subst ex
  cases r1 with
  | cons r rr =>
    cases rr
    cases r
    obtain ⟨its, rv, p', hz⟩ := I1.tuple hq
    have p2 : s1.heap.IsTuple a its.toArray := p'
    refine enumT_begins (begins_tuple a its.toArray) p2 fun h' he hit hsz hk => wpAny_pyIter_enum he ?_
    have I2 : Inv X pins σ H1 { s1 with heap := h' } := I1.kept (t' := s1.toks) hk
    have hal : a < s1.heap.objs.size := by
      obtain ⟨o, m, _⟩ := p2
      exact Heap.lt_size m
    refine ⟨s1.heap.objs.size + 1, [s1.heap.objs.size + 1, s1.heap.objs.size], _, _, H1, rfl, I2, turn_enumT a (s1.heap.objs.size + 1) s1.heap.objs.size, ⟨⟨.none, by simpa using he⟩, ⟨_, hit, rfl, rfl⟩, Nat.succ_ne_self _, Nat.ne_of_lt hal⟩, fun b hb => ?_, q⟩
    have hle : s1.heap.objs.size ≤ b := by
      rcases (show b = s1.heap.objs.size + 1 ∨ b = s1.heap.objs.size by simpa using hb) with z | z
      · rw [z]; exact Nat.le_add_right _ _
      · rw [z]; exact Nat.le_refl _
    exact I1.fpOk hle (I1.hok.fresh hle)
end Far

namespace Far
open PySem PySem.Spec PyProof.Rows L2
open C8 (pss_cut tCut)
open SX (S)
structure TxtQ (mg : Str → Option Value) : Prop where
  len : mg "len" = none
  range : mg "range" = none
  tuple : mg "tuple" = none
  enumerate : mg "enumerate" = none
theorem szM {n : Nat} (h : n ≤ 10000000) : n < sizeLine := Nat.lt_of_le_of_lt h (by decide)
theorem for_enumT {K : PySem.W.Frag} {a : Addr} {xs : List V} {g : TG} {tb : TS} {D : Ends} {σ : L2.St} {H : Hp} (Pv : Nat → L2.St → Hp → Prop) (h0 : Pv 0 σ H) (hl : ∀ i σ H, Pv i σ H → SqT K H a xs)
    (hs : ∀ i x σ H T, xs[i]? = some x → Pv i σ H → H T = none → g (.ref T) σ (upd H T (.tup [.int (i : Nat), x])) fun σ2 H2 => tb { D with nx := Pv (i + 1), ct := Pv (i + 1), bk := D.nx } σ2 H2) (hd : ∀ σ H, Pv xs.length σ H → D.nx σ H) :
    ∃ W : Nat → Nat → L2.St → Hp → Prop, (∃ m, W 0 m σ H) ∧ ∀ i m σ H, W i m σ H →
      ((Itne K a).stop i H ∧ D.nx σ H) ∨ ((Itne K a).go i H ∧ ∃ N : L2.St → Hp → Prop, (∀ σ' H', N σ' H' → ∃ m', m' < m ∧ W (i + 1) m' σ' H') ∧ ∀ x H', (Itne K a).yld i H x H' → g x σ H' fun σ2 H2 => tb { D with nx := N, ct := N, bk := D.nx } σ2 H2) := by
  refine ⟨fun i m σ H => m = xs.length - i ∧ i ≤ xs.length ∧ Pv i σ H, ⟨xs.length, by simp, Nat.zero_le _, h0⟩, fun i m σ H ⟨em, hi, p⟩ => ?_⟩
  have q := hl i σ H p
  by_cases lt : i < xs.length
  · refine .inr ⟨⟨xs, xs[i], q, by simp [lt]⟩, Pv (i + 1), fun σ' H' p' => ⟨xs.length - (i + 1), by omega, rfl, lt, p'⟩, fun v H' ⟨T, x, ev, nT, eH, hx⟩ => ?_⟩
    rw [ev, eH]
    exact hs i x σ H T (hx xs q) p nT
  · have e : i = xs.length := by omega
    rw [e] at p
    exact .inl ⟨⟨xs, q, by omega⟩, hd σ H p⟩
abbrev s_pairs_in_order : Stmt := topS 10
abbrev N_pairs_in_order : List Str := ["tree", "places", "told", "number", "one", "lengths", "behind"]
theorem sc_pairs_in_order : FnScope N_pairs_in_order ["tree"] (defScope s_pairs_in_order) := ⟨rfl, rfl, rfl, by decide +kernel, rfl, by decide +kernel, by decide +kernel⟩
section
variable {P : Program} {w : World} {K : PySem.W.Frag} {mg : Str → Option Value} {base : Heap}
/-- what pairs_in_order tells -/
def spPio : Sp := fun vs H Q _ => ∃ (v : V) (pl : List Nm) (ts : List Tie), vs = [v] ∧ Dt H v (treeD pl ts) ∧ Fine pl ts ∧ ∀ (H' : Hp) (D : Addr) (ws : List V), Same H H' → H D = none → H' D = some (.lst ws) → DtAll H' ws ((pairsOf pl ts).map triD) → Q (.ref D) H'
theorem ok_pio {f : Addr} {fd : FuncData} (F : Fun K "pairs_in_order" "pairs_in_order" s_pairs_in_order f fd) (T : TxtQ mg) (Clengths_from : Cal P w K mg base 3 "lengths_from" spLens) : FnOk P w K mg base CX0 4 f fd ["tree"] spPio := by
  refine F.ok sc_pairs_in_order (fun vs H Q E h => ?_) (fun cdv A outer s H vs Q E hr h => ?_)
  · obtain ⟨v, pl, ts, rfl, _⟩ := h
    rfl
  · obtain ⟨v, pl, ts, rfl, hd, fine, q⟩ := h
    obtain ⟨t, a, b, vs, rfl, ht, ha, hb, hA⟩ := dt_tree hd
    refine ⟨_, (pss_cons (ps_set (i := 1) sc_pairs_in_order.nd rfl (.inl rfl) (pe_ix ix_tup (pv 0) pe_int (fun _ _ => rfl)))
      (pss_cons (ps_set (i := 2) sc_pairs_in_order.nd rfl (.inl rfl) (pe_lst pa_nil))
      (pss_cut (ps_for PassesOwn.never rfl (pi_enumT (by rfl) T.enumerate (pa_cons (pv 1) pa_nil)) (pg_tup rfl (pgs_cons (pg_name (i := 3) sc_pairs_in_order.nd rfl (.inl rfl)) (pgs_cons (pg_name (i := 4) sc_pairs_in_order.nd rfl (.inl rfl)) pgs_nil)))
        (pss_cons (ps_set (i := 5) sc_pairs_in_order.nd rfl (.inl rfl) (pe_c Clengths_from hr (by decide) rfl (pa_cons (pv 0) (pa_cons (pv 4) pa_nil))))
        (pss_one (ps_for PassesOwn.never rfl (pi_range2 (by rfl) T.range (pa_cons (pe_op op_add (pv 3) pe_int) (pa_cons (pe_callB call_len_seq (by rfl) T.len bt_len (pa_cons (pv 1) pa_nil)) pa_nil))) (pg_name (i := 6) sc_pairs_in_order.nd rfl (.inl rfl))
          (pss_one (ps_expr (pe_bm PySem.F.plainAttrs_list PySem.F.slot_list_append PySem.F.type_list_append mt_append (pv 2) (pa_cons (pe_tup (pa_cons (pe_ix ix_tup (pv 5) (pv 6) (fun _ _ => rfl)) (pa_cons (pv 4) (pa_cons (pe_ix ix_tup (pv 1) (pv 6) (fun _ _ => rfl)) pa_nil)))) pa_nil))))))))
      (pss_one (ps_ret (pv 2)))))), ?_⟩
    have p1000 := fine.len
    have sqn : ((pl.map S).map V.str).length = pl.length := by rw [List.length_map, List.length_map]
    refine ⟨_, rfl, t, _, 0, .ref a, rfl, rfl, SqT.of ht, atI_nat (j := 0) rfl, ?_⟩
    refine ⟨Nat.zero_le _, fun D nD => ?_⟩
    refine ⟨fun σ' H' => ∃ (x3 x4 x5 x6 : Option V) (ws : List V), σ' = [some (.ref t), some (.ref a), some (.ref D), x3, x4, x5, x6] ∧ Same H H' ∧ H' D = some (.lst ws) ∧ DtAll H' ws ((pairsOf pl ts).map triD), ?_, fun σ' H' hM => ?_⟩
    · have S2 := same_new (o := .lst []) (Same.refl H) nD
      refine ⟨_, rfl, a, _, rfl, (ha.same S2).sq, ?_⟩
      refine for_enumT (K := K) (a := a) (xs := (pl.map S).map V.str) (fun i σ' H' => ∃ (x3 x4 x5 x6 : Option V) (ws : List V), σ' = [some (.ref t), some (.ref a), some (.ref D), x3, x4, x5, x6] ∧ Same H H' ∧ H' D = some (.lst ws) ∧ DtAll H' ws ((prs pl ts i).map triD)) ⟨none, none, none, none, [], rfl, S2, upd_same, .nil⟩ (fun i σ' H' hP => ?_) (fun i v σ' H' u hi hP nu => ?_) (fun σ' H' hP => ?_)
      · obtain ⟨_, _, _, _, ws, rfl, SM, _⟩ := hP
        exact (ha.same SM).sq
      · obtain ⟨x3, x4, x5, x6, ws, rfl, SM, hD, hW⟩ := hP
        have gx : ∃ x, pl[i]? = some x ∧ v = .str (S x) := by
          rw [List.getElem?_map, List.getElem?_map] at hi
          cases el : pl[i]? with
          | none => rw [el] at hi; cases hi
          | some x => rw [el] at hi; exact ⟨x, rfl, (Option.some.inj hi).symm⟩
        obtain ⟨x, gx, rfl⟩ := gx
        have ip : i < pl.length := (List.getElem?_eq_some_iff.mp gx).1
        have hx : x ∈ pl := List.mem_of_getElem? gx
        have uD : u ≠ D := (ne_of_none hD nu).symm
        have S3 := same_new (o := .tup [.int (i : Nat), .str (S x)]) SM nu
        have tk3 : TK H' (upd H' u (.tup [.int (i : Nat), .str (S x)])) := TK.new nu
        have hD3 : (upd H' u (.tup [.int (i : Nat), .str (S x)])) D = some (.lst ws) := by rw [upd_ne uD.symm]; exact hD
        have hW3 := DtAll.keep tk3 hW
        have hu3 : (upd H' u (.tup [.int (i : Nat), .str (S x)])) u = some (.tup [.int (i : Nat), .str (S x)]) := upd_same
        clear hD hW tk3 nu SM
        generalize upd H' u (.tup [.int (i : Nat), .str (S x)]) = H3 at S3 hD3 hW3 hu3
        refine ⟨u, _, rfl, SqT.of hu3, rfl, _, _, rfl, _, _, rfl, rfl, ?_⟩
        refine ⟨_, rfl, _, rfl, .ref t, pl, ts, x, rfl, Dt.keep (TK.of S3) hd, fine, hx, fun H4 L S4 nL hL => ?_⟩
        have SM := S3.trans S4
        have hD := S4 _ _ hD3
        have hW := DtAll.keep (TK.of S4) hW3
        refine ⟨_, rfl, _, _, rfl, rfl, _, rfl, a, _, rfl, .inr (ha.same SM).sq, _, _, rfl, ⟨by omega, by omega, by rw [sqn]; omega, by rw [sqn]; omega⟩, ?_⟩
        refine for_range (lo := ((i : Nat) : Int) + 1) (n := ((((pl.map S).map V.str).length : Int) - (((i : Nat) : Int) + 1)).toNat) (fun j σ' H' => ∃ (x6 : Option V) (ws : List V), σ' = [some (.ref t), some (.ref a), some (.ref D), some (.int ((i : Nat) : Int)), some (.str (S x)), some (.ref L), x6] ∧ Same H H' ∧ H' L = some (.tup (pl.map fun z => .int (dist ts x z))) ∧ H' D = some (.lst ws) ∧ DtAll H' ws ((prs pl ts i ++ (rowP pl ts i).take j).map triD)) ⟨x6, ws, rfl, SM, hL, hD, by rw [List.take_zero, List.append_nil]; exact hW⟩ (fun j σ' H' hj hP => ?_) (fun σ' H' hP => ?_)
        · obtain ⟨x6, ws, rfl, S6, hL, hD, hW⟩ := hP
          rw [sqn] at hj
          have jp : i + 1 + j < pl.length := by omega
          have gy : pl[i + 1 + j]? = some pl[i + 1 + j] := List.getElem?_eq_getElem jp
          generalize pl[i + 1 + j] = y at gy
          have hy : y ∈ pl := List.mem_of_getElem? gy
          have ej : ((i : Nat) : Int) + 1 + (j : Int) = ((i + 1 + j : Nat) : Int) := by omega
          have wl : ws.length = (prs pl ts i ++ (rowP pl ts i).take j).length := by
            have := DtAll.len hW
            rwa [List.length_map] at this
          have b1 := prs_len pl ts i
          have b2 : i * pl.length ≤ 1000 * 1000 := Nat.mul_le_mul (by omega) p1000
          rw [List.length_append, List.length_take, rowP_len] at wl
          have gpy : ((pl.map S).map V.str)[i + 1 + j]? = some (.str (S y)) := by rw [List.getElem?_map, List.getElem?_map, gy]; rfl
          have gd : (pl.map fun z => V.int (dist ts x z))[i + 1 + j]? = some (.int (dist ts x y)) := by rw [List.getElem?_map, gy]; rfl
          refine ⟨_, rfl, .inl ⟨rfl, _, SqL.of hD⟩, _, rfl, _, rfl, L, _, ((i : Nat) : Int) + 1 + (j : Int), _, rfl, rfl, SqT.of hL, by rw [ej]; exact atI_nat gd, ?_⟩
          refine ⟨_, rfl, _, rfl, _, rfl, a, _, ((i : Nat) : Int) + 1 + (j : Int), _, rfl, rfl, (ha.same S6).sq, by rw [ej]; exact atI_nat gpy, (by show 3 ≤ sizeLine; decide), fun e ne => ?_⟩
          have hD2 : (upd H' e (.tup [.int (dist ts x y), .str (S x), .str (S y)])) D = some (.lst ws) := by
            rw [upd_ne (ne_of_none hD ne)]
            exact hD
          refine ⟨D, ws, _, rfl, rfl, hD2, szM (by omega), ?_⟩
          have tk : TK (upd H' e (.tup [.int (dist ts x y), .str (S x), .str (S y)])) (upd (upd H' e (.tup [.int (dist ts x y), .str (S x), .str (S y)])) D (.lst (ws ++ [.ref e]))) := TK.mut hD2
          have Le : L ≠ e := ne_of_none hL ne
          have LD : L ≠ D := ne_of hL hD (by intro z; cases z)
          refine ⟨_, ws ++ [.ref e], rfl, same_put (same_new S6 ne) nD, by rw [upd_ne LD, upd_ne Le]; exact hL, upd_same, ?_⟩
          rw [List.take_add_one, rowP_at gx gy, ← List.append_assoc, List.map_append]
          exact DtAll.app (DtAll.keep ((TK.new ne).trans tk) hW) (.cons (.tup (tk.tup _ _ upd_same) (.cons (.int _) (.cons (.str _) (.cons (.str _) .nil)))) .nil)
        · obtain ⟨x6, ws, rfl, S6, hL, hD, hW⟩ := hP
          refine ⟨_, _, _, _, ws, rfl, S6, hD, ?_⟩
          rw [sqn, List.take_of_length_le (by rw [rowP_len]; omega)] at hW
          rw [prs_succ]
          exact hW
      · obtain ⟨x3, x4, x5, x6, ws, rfl, SM, hD, hW⟩ := hP
        rw [sqn] at hW
        exact ⟨x3, x4, x5, x6, ws, rfl, SM, hD, hW⟩
    · obtain ⟨x3, x4, x5, x6, ws, rfl, SM, hD, hW⟩ := hM
      exact ⟨_, rfl, q H' D ws SM nD hD hW⟩
end
end Far

namespace Far
open PySem PySem.Spec PyProof.Rows L2
open C8 (pss_cut tCut)
open SX (S)
open RZ (ItzT iZipA pi_zipA)
structure TxtL (mg : Str → Option Value) : Prop where
  isinstance : mg "isinstance" = none
  tuple : mg "tuple" = none
  str : mg "str" = none
  int : mg "int" = none
  bool : mg "bool" = none
  len : mg "len" = none
  zip : mg "zip" = none
  range : mg "range" = none
/-- what two told things have in common: texts, whole numbers, tuples of such -/
inductive Plain : Nat → PyData → Prop
  | non (n : Nat) : Plain (n + 1) .none
  | str (n : Nat) (x : Str) : Plain (n + 1) (.str x)
  | int (n : Nat) (i : Int) : Plain (n + 1) (.int i)
  | tup {n : Nat} {ds : List PyData} : (∀ d ∈ ds, Plain n d) → ds.length ≤ 1000 → Plain (n + 1) (.tuple ds)
theorem kit_cls (K : PySem.W.Frag) {a b : String} {r : Bool} (h : kitB a b = some r) : PySem.W.kitOne K (.type a) (.type b) = some r := kit_ty h
abbrev s_law_same : Stmt := topS 20
abbrev N_law_same : List Str := ["found", "due", "one", "other"]
theorem sc_law_same : FnScope N_law_same ["found", "due"] (defScope s_law_same) := ⟨rfl, rfl, rfl, by decide +kernel, rfl, by decide +kernel, by decide +kernel⟩
section
variable {P : Program} {w : World} {K : PySem.W.Frag} {mg : Str → Option Value} {base : Heap}
theorem zip_it {K : PySem.W.Frag} {a b : Addr} {xs ys : List V} {g : TG} {tt : TT} {te : TE} {vs : List Nat} {σ : L2.St} {H1 : Hp} {D : Addr} {Qd : Hp → Prop} (len : xs.length = ys.length) (Pv : Nat → Hp → Prop) (h0 : Pv 0 (upd H1 D (.lst []))) (hl : ∀ i H, Pv i H → SqT K H a xs ∧ SqT K H b ys)
    (hs : ∀ i x y H T, xs[i]? = some x → ys[i]? = some y → Pv i H → H T = none → g (.ref T) (wipe σ vs) (upd H T (.tup [x, y])) fun σ2 H2 => wipe σ2 vs = wipe σ vs ∧ tt σ2 H2 fun b H3 =>
      if b = true then te σ2 H3 fun y H4 => ∃ acc, H4 D = some (.lst acc) ∧ acc.length < sizeLine ∧ Pv (i + 1) (upd H4 D (.lst (acc ++ [y]))) else Pv (i + 1) H3) (hd : ∀ H, Pv xs.length H → Qd H) :
    ∃ W : Nat → Nat → Hp → Prop, (∃ m, W 0 m (upd H1 D (.lst []))) ∧ ∀ i m H, W i m H →
      ((ItzT K a b).stop i H ∧ Qd H) ∨ ((ItzT K a b).go i H ∧ ∃ Nx : Hp → Prop, (∀ H', Nx H' → ∃ m', m' < m ∧ W (i + 1) m' H') ∧ ∀ v H', (ItzT K a b).yld i H v H' → g v (wipe σ vs) H' fun σ2 H2 => wipe σ2 vs = wipe σ vs ∧ tt σ2 H2 fun b H3 =>
        if b = true then te σ2 H3 fun y H4 => ∃ acc, H4 D = some (.lst acc) ∧ acc.length < sizeLine ∧ Nx (upd H4 D (.lst (acc ++ [y]))) else Nx H3) := by
  refine ⟨fun i m H => m = xs.length - i ∧ i ≤ xs.length ∧ Pv i H, ⟨xs.length, by simp, Nat.zero_le _, h0⟩, fun i m H ⟨em, hi, p⟩ => ?_⟩
  obtain ⟨q1, q2⟩ := hl i H p
  by_cases lt : i < xs.length
  · have lt2 : i < ys.length := by omega
    refine .inr ⟨⟨xs, ys, xs[i], ys[i], q1, q2, by simp [lt], by simp [lt2]⟩, Pv (i + 1), fun H' p' => ⟨xs.length - (i + 1), by omega, rfl, lt, p'⟩, fun v H' ⟨T, x, y, ev, nT, eH, hx, hy⟩ => ?_⟩
    rw [ev, eH]
    exact hs i x y H T (hx xs q1) (hy ys q2) p nT
  · have e : i = xs.length := by omega
    rw [e] at p
    exact .inl ⟨⟨xs, ys, q1, q2, .inl (by omega)⟩, hd H p⟩
/-- two that stand for the same data (of depth below n) are the same -/
def spSame (n : Nat) : Sp := fun vs H Q _ => ∃ (u v : V) (d : PyData), vs = [u, v] ∧ Dt H u d ∧ Dt H v d ∧ Plain n d ∧ ∀ H' : Hp, Same H H' → Q (.bl true) H'
theorem dt_any {H : Hp} {u : V} {ds : List PyData} (h : Dt H u (.tuple ds)) : ∃ (a : Addr) (xs : List V), u = .ref a ∧ TupAt H a xs ∧ DtAll H xs ds := by
  cases h with
  | tup ha hs => exact ⟨_, _, rfl, .inl ha, hs⟩
  | @tupZ a pl _ o e n d ha =>
    subst e
    exact ⟨_, _, rfl, .inr ⟨o, d, ha⟩, dt_strs H pl⟩
theorem TupAt.ty {K : PySem.W.Frag} {H : Hp} {a : Addr} {xs : List V} (h : TupAt H a xs) : TyX K H (.ref a) (.type "tuple") := h.elim (fun h => .base (.tup h)) fun ⟨_, _, h⟩ => .fTuple h
theorem ok_same {f : Addr} {fd : FuncData} {n k : Nat} (hk : 1 ≤ k) (F : Fun K "_law_same" "_law_same" s_law_same f fd) (T : TxtL mg) (C_law_same : Cal P w K mg base k "_law_same" (spSame n)) : FnOk P w K mg base CX0 (k + 1) f fd ["found", "due"] (spSame (n + 1)) := by
  refine F.ok sc_law_same (fun vs H Q E h => ?_) (fun cdv A outer s H vs Q E hr h => ?_)
  · obtain ⟨u, v, d, rfl, _⟩ := h
    rfl
  · obtain ⟨u, v, d, rfl, hu, hv, hp, q⟩ := h
    refine ⟨_, (pss_cut (ps_if (pt_val (pe_callB call_isi (by rfl) T.isinstance bt_isinstance (pa_cons (pv 1) (pa_cons (pe_bltn (v := .ty "tuple") (by rfl) T.tuple bt_tuple rfl) pa_nil))))
        (pss_cut (ps_if (PW.pt (pw_or (pt_not (pt_val (pe_callB call_isi (by rfl) T.isinstance bt_isinstance (pa_cons (pv 0) (pa_cons (pe_bltn (v := .ty "tuple") (by rfl) T.tuple bt_tuple rfl) pa_nil))))) (pw_or1 (pt_cmpR op_ne (pe_callB call_len_seq (by rfl) T.len bt_len (pa_cons (pv 0) pa_nil)) (pe_callB call_len_seq (by rfl) T.len bt_len (pa_cons (pv 1) pa_nil)) (nomark _)))))
          (pss_one (ps_ret pe_bl))
          pss_nil)
        (pss_one (ps_ret (pe_cmpR (op_eqD (hd_of hr hk)) (pe_lc (own := [("one", 2), ("other", 3)]) (g := gTup K 2 (gCons (gName 2) (gCons (gName 3) gNil)))  rfl sc_law_same.nd (pi_zipA (by rfl) T.zip (pa_cons (pv 0) (pa_cons (pv 1) pa_nil))) (blkOk_by (N := N_law_same) (sc := defScope s_law_same) (by decide +kernel)) (fun _ _ _ _ _ => (pg_tup rfl (pgs_cons (pg_name (i := 2) sc_law_same.nd rfl (.inl rfl)) (pgs_cons (pg_name (i := 3) sc_law_same.nd rfl (.inl rfl)) pgs_nil)))) (fun _ _ _ _ _ => pts_one (pt_not (pt_val (pe_c C_law_same hr (Nat.le_refl _) rfl (pa_cons (pv 2) (pa_cons (pv 3) pa_nil)))))) (fun _ _ _ _ _ => pe_int)) (pe_lst pa_nil) (nomark _)))))
        pss_nil)
      (pss_cut (ps_if (pt_val (pe_callB call_isi (by rfl) T.isinstance bt_isinstance (pa_cons (pv 1) (pa_cons (pe_bltn (v := .ty "int") (by rfl) T.int bt_int rfl) pa_nil))))
        (pss_one (ps_ret (pe_and (pe_callB call_isi (by rfl) T.isinstance bt_isinstance (pa_cons (pv 0) (pa_cons (pe_bltn (v := .ty "int") (by rfl) T.int bt_int rfl) pa_nil))) (pe_and (pe_not (pe_callB call_isi (by rfl) T.isinstance bt_isinstance (pa_cons (pv 0) (pa_cons (pe_bltn (v := .ty "bool") (by rfl) T.bool bt_bool rfl) pa_nil)))) (pe_one (pe_cmpR op_eq (pv 0) (pv 1) (nomark _)))))))
        pss_nil)
      (pss_one (ps_ret (pe_cmpR op_eq (pv 0) (pv 1) (nomark _)))))), ?_⟩
    cases hp with
    | non _ =>
      cases hu
      cases hv
      refine ⟨fun σ' H' => σ' = [some .non, some .non, none, none] ∧ H' = H, ?_, fun σ' H' hM => ?_⟩
      · exact ⟨_, rfl, _, _, _, _, false, rfl, .ty _, .base .non, kit_cls K (by decide +kernel), _, rfl, iteF ⟨rfl, rfl⟩⟩
      · obtain ⟨rfl, rfl⟩ := hM
        refine ⟨fun σ' H'' => σ' = [some .non, some .non, none, none] ∧ H'' = H', ?_, fun σ' H'' hM => ?_⟩
        · exact ⟨_, rfl, _, _, _, _, false, rfl, .ty _, .base .non, kit_cls K (by decide +kernel), _, rfl, iteF ⟨rfl, rfl⟩⟩
        · obtain ⟨rfl, rfl⟩ := hM
          refine ⟨_, rfl, _, rfl, by simp [scal], ?_⟩
          rw [decide_eq_true rfl]
          exact q _ (Same.refl _)
    | str _ x =>
      cases hu
      cases hv
      refine ⟨fun σ' H' => σ' = [some (.str x), some (.str x), none, none] ∧ H' = H, ?_, fun σ' H' hM => ?_⟩
      · exact ⟨_, rfl, _, _, _, _, false, rfl, .ty _, .base (.str x), kit_cls K (by decide +kernel), _, rfl, iteF ⟨rfl, rfl⟩⟩
      · obtain ⟨rfl, rfl⟩ := hM
        refine ⟨fun σ' H'' => σ' = [some (.str x), some (.str x), none, none] ∧ H'' = H', ?_, fun σ' H'' hM => ?_⟩
        · exact ⟨_, rfl, _, _, _, _, false, rfl, .ty _, .base (.str x), kit_cls K (by decide +kernel), _, rfl, iteF ⟨rfl, rfl⟩⟩
        · obtain ⟨rfl, rfl⟩ := hM
          refine ⟨_, rfl, _, rfl, by simp [scal], ?_⟩
          rw [decide_eq_true rfl]
          exact q _ (Same.refl _)
    | int _ x =>
      cases hu
      cases hv
      refine ⟨fun σ' H' => σ' = [some (.int x), some (.int x), none, none] ∧ H' = H, ?_, fun σ' H' hM => ?_⟩
      · exact ⟨_, rfl, _, _, _, _, false, rfl, .ty _, .base (.int x), kit_cls K (by decide +kernel), _, rfl, iteF ⟨rfl, rfl⟩⟩
      · obtain ⟨rfl, rfl⟩ := hM
        refine ⟨fun σ' H'' => False, ?_, fun σ' H'' hM => hM.elim⟩
        refine ⟨_, rfl, _, _, _, _, true, rfl, .ty _, .base (.int x), kit_cls K (by decide +kernel), _, rfl, iteT ?_⟩
        refine ⟨_, rfl, _, _, _, _, true, rfl, .ty _, .base (.int x), kit_cls K (by decide +kernel), _, rfl, iteT ?_⟩
        refine ⟨_, rfl, _, _, _, _, false, rfl, .ty _, .base (.int x), kit_cls K (by decide +kernel), _, rfl, _, rfl, iteT ⟨_, rfl, _, rfl, by simp [scal], ?_⟩⟩
        rw [decide_eq_true rfl]
        exact q _ (Same.refl _)
    | @tup _ ds hds hl =>
      obtain ⟨a, xs, rfl, ha, hA⟩ := dt_any hu
      obtain ⟨b, ys, rfl, hb, hB⟩ := dt_any hv
      have l1 := DtAll.len hA
      have l2 := DtAll.len hB
      refine ⟨fun σ' H' => False, ?_, fun σ' H' hM => hM.elim⟩
      refine ⟨_, rfl, _, _, _, _, true, rfl, .ty _, hb.ty, kit_cls K (by decide +kernel), _, rfl, iteT ?_⟩
      refine ⟨fun σ' H' => σ' = [some (.ref a), some (.ref b), none, none] ∧ H' = H, ?_, fun σ' H' hM => ?_⟩
      · refine ⟨_, rfl, _, _, _, _, true, rfl, .ty _, ha.ty, kit_cls K (by decide +kernel), _, rfl, iteF ?_⟩
        refine ⟨_, rfl, a, _, rfl, .inr (ha.sq), _, rfl, b, _, rfl, .inr (hb.sq), rfl, _, rfl, ?_⟩
        rw [l1, l2, decide_eq_true rfl]
        exact iteF ⟨rfl, rfl⟩
      · obtain ⟨rfl, rfl⟩ := hM
        refine ⟨_, rfl, _, rfl, a, b, xs, ys, rfl, .inr ⟨ha.sq, hb.sq, fun D nD => ?_⟩⟩
        refine zip_it (by omega) (fun i H'' => Same H' H'' ∧ H'' D = some (.lst [])) ⟨same_new (Same.refl H') nD, upd_same⟩ (fun i H'' hP => ⟨(ha.same hP.1).sq, (hb.same hP.1).sq⟩) (fun i x y H'' T hx hy hP nT => ?_) (fun H'' hP => ?_)
        · obtain ⟨d1, hd1, hx'⟩ := DtAll.get hA hx
          obtain ⟨d2, hd2, hy'⟩ := DtAll.get hB hy
          have ed : d1 = d2 := Option.some.inj (hd1.symm.trans hd2)
          subst ed
          have sT : Same H' (upd H'' T (.tup [x, y])) := same_new hP.1 nT
          refine ⟨T, _, rfl, SqT.of upd_same, rfl, _, _, rfl, _, _, rfl, rfl, rfl, ?_⟩
          refine ⟨_, rfl, _, rfl, x, y, d1, rfl, Dt.keep (TK.of sT) hx', Dt.keep (TK.of sT) hy', hds d1 (List.mem_of_getElem? hd1), fun H3 S3 => ?_⟩
          refine ⟨_, rfl, iteF ⟨sT.trans S3, S3 _ _ ?_⟩⟩
          rw [upd_ne (ne_of_none hP.2 nT)]
          exact hP.2
        · refine ⟨Nat.zero_le _, fun p np => ?_⟩
          refine ⟨_, _, .lst (SqL.of (by rw [upd_ne (ne_of_none hP.2 np)]; exact hP.2)) .nil, .lst (SqL.of upd_same) .nil, rfl, rfl, ?_⟩
          exact q _ (same_new hP.1 np)
end
end Far

namespace Far
open PySem PySem.Spec PyProof.Rows L2
open C8 (pss_cut tCut)
open SX (S)
/-! ### the greatest of triples -/
def best : List Tri → Int
  | [] => 0
  | x :: r => r.foldl (fun m y => max m y.1) x.1
theorem fold_max : ∀ (r : List Tri) (m : Int), (r.foldl (fun m y => max m y.1) m = m ∨ r.foldl (fun m y => max m y.1) m ∈ r.map (·.1)) ∧ m ≤ r.foldl (fun m y => max m y.1) m ∧ ∀ y ∈ r, y.1 ≤ r.foldl (fun m y => max m y.1) m
  | [], m => ⟨.inl rfl, Int.le_refl _, fun y hy => (by cases hy)⟩
  | x :: r, m => by
    obtain ⟨h1, h2, h3⟩ := fold_max r (max m x.1)
    refine ⟨?_, ?_, fun y hy => ?_⟩
    · show r.foldl _ (max m x.1) = m ∨ r.foldl _ (max m x.1) ∈ x.1 :: r.map (·.1)
      rcases h1 with h1 | h1
      · rw [h1]
        by_cases z : m ≤ x.1
        · exact .inr (by rw [Int.max_eq_right z]; exact List.mem_cons_self ..)
        · exact .inl (Int.max_eq_left (by omega))
      · exact .inr (List.mem_cons_of_mem _ h1)
    · show m ≤ r.foldl _ (max m x.1)
      exact Int.le_trans (Int.le_max_left _ _) h2
    · show y.1 ≤ r.foldl _ (max m x.1)
      rcases List.mem_cons.mp hy with z | z
      · rw [z]
        exact Int.le_trans (Int.le_max_right _ _) h2
      · exact h3 y z
theorem best_is {ps : List Tri} {m : Int} (h1 : m ∈ ps.map (·.1)) (h2 : ∀ y ∈ ps.map (·.1), y ≤ m) : best ps = m := by
  cases ps with
  | nil => cases h1
  | cons x r =>
    obtain ⟨k1, k2, k3⟩ := fold_max r x.1
    show r.foldl (fun m y => max m y.1) x.1 = m
    have a : r.foldl (fun m y => max m y.1) x.1 ≤ m := by
      rcases k1 with k1 | k1
      · rw [k1]
        exact h2 _ (List.mem_cons_self ..)
      · exact h2 _ (List.mem_cons_of_mem _ k1)
    have b : m ≤ r.foldl (fun m y => max m y.1) x.1 := by
      rcases List.mem_cons.mp h1 with z | z
      · rw [z]
        exact k2
      · obtain ⟨y, hy, e⟩ := List.mem_map.mp z
        rw [← e]
        exact k3 y hy
    omega
/-- the pairs of the greatest length, in order -/
noncomputable def farOf (pl : List Nm) (ts : List Tie) : List Tri := (pairsOf pl ts).filter fun x => x.1 == best (pairsOf pl ts)
/-- what farthest tells -/
noncomputable def farD (pl : List Nm) (ts : List Tie) : PyData := match farOf pl ts with
  | [] => .tuple [.int 0, .str (S (pl.headD [])), .str (S (pl.headD []))]
  | x :: _ => triD x
/-- what all_farthest tells -/
noncomputable def allD (pl : List Nm) (ts : List Tie) : PyData := .tuple ((farOf pl ts).map fun x => .tuple [.str (S x.2.1), .str (S x.2.2)])
theorem farOf_none {pl : List Nm} {ts : List Tie} (h : pairsOf pl ts = []) : farOf pl ts = [] := by
  unfold farOf
  rw [h]
  rfl
theorem mem_prs {pl : List Nm} {ts : List Tie} {x : Tri} : ∀ {n : Nat}, n ≤ pl.length → x ∈ prs pl ts n → x.2.1 ∈ pl ∧ x.2.2 ∈ pl ∧ x.1 = dist ts x.2.1 x.2.2
  | 0, _, h => by cases h
  | n + 1, hn, h => by
    rw [prs_succ] at h
    rcases List.mem_append.mp h with h | h
    · exact mem_prs (by omega) h
    · obtain ⟨y, hy, rfl⟩ := List.mem_map.mp h
      refine ⟨?_, List.mem_of_mem_drop hy, rfl⟩
      show pl.getD n [] ∈ pl
      have e : pl.getD n [] = pl[n]'(by omega) := by simp [List.getD, show n < pl.length by omega]
      rw [e]
      exact List.getElem_mem _
theorem mem_pairs {pl : List Nm} {ts : List Tie} {x : Tri} (h : x ∈ pairsOf pl ts) : x.2.1 ∈ pl ∧ x.2.2 ∈ pl ∧ x.1 = dist ts x.2.1 x.2.2 := mem_prs (Nat.le_refl _) h
theorem dt_tri {H : Hp} {v : V} {x : Tri} (h : Dt H v (triD x)) : ∃ t : Addr, v = .ref t ∧ H t = some (.tup [.int x.1, .str (S x.2.1), .str (S x.2.2)]) := by
  obtain ⟨t, xs, rfl, ht, hs⟩ := dt_tup h fun _ => ⟨.int x.1, by simp, fun l z => nomatch z⟩
  cases hs with
  | cons h1 hr =>
    cases hr with
    | cons h2 hr =>
      cases hr with
      | cons h3 hr =>
        cases hr
        cases h1
        cases h2
        cases h3
        exact ⟨t, rfl, ht⟩
theorem lay_tris : ∀ {xs : List Tri}, (∀ x ∈ xs, NameOk x.2.1 ∧ NameOk x.2.2) → PyData.canLayAll0 (xs.map triD) = true
  | [], _ => rfl
  | x :: r, h => by
    obtain ⟨h1, h2⟩ := h x (List.mem_cons_self ..)
    have ih := lay_tris fun y hy => h y (List.mem_cons_of_mem _ hy)
    show (PyData.canLay0 (triD x) && PyData.canLayAll0 (r.map triD)) = true
    rw [ih, Bool.and_true]
    show (true && (PyData.strOk (S x.2.1) && (PyData.strOk (S x.2.2) && true))) = true
    rw [strOk_S h1, strOk_S h2]
    rfl
theorem dep_tris : ∀ xs : List Tri, PyData.depthAll (xs.map triD) ≤ 1
  | [] => Nat.zero_le _
  | x :: r => by
    show max (PyData.depth (triD x)) (PyData.depthAll (r.map triD)) ≤ 1
    have ih := dep_tris r
    have e : PyData.depth (triD x) = 1 := rfl
    rw [e]
    omega
theorem shaped_tris {xs : List Tri} (h : ∀ x ∈ xs, NameOk x.2.1 ∧ NameOk x.2.2) : SeqAt.shaped (.list (xs.map triD)) = true := by
  show (PyData.canLayAll0 (xs.map triD) && decide (PyData.depthAll (xs.map triD) + 1 ≤ 64)) = true
  have := dep_tris xs
  rw [lay_tris h, decide_eq_true (by omega)]
  rfl
end Far

namespace Far
open PySem PySem.Spec PyProof.Rows L2
/-! ### a lambda of one parameter, as the key of sorted -/
section
variable {prog : Program} {w : World} {A : Around} {E : Value → Shared → Prop} {s : Shared}
/-- v is a tuple whose first item is the whole number i -/
def Fst (h : Heap) (v : Value) (i : Int) : Prop := ∃ (t : Addr) (its : List Value) (tk : Tok), v = .ref t ∧ IsTup h t its.toArray ∧ its[0]? = some (.int i tk)
theorem Fst.keep {h h' : Heap} {v : Value} {i : Int} (f : Fst h v i) (k : ∀ b o, h.get? b = some o → h'.get? b = some o) : Fst h' v i := by
  obtain ⟨t, its, tk, e, ⟨o, ho, r⟩, hi⟩ := f
  exact ⟨t, its, tk, e, ⟨o, k _ _ ho, r⟩, hi⟩
/-- what a body gives at a tuple that begins with i -/
def KeyBody (prog : Program) (w : World) (x : Str) (body : Expr) (g : Int → Int) : Prop :=
  ∀ (A : Around) (env : Env) (s : Shared) (m : Str → Option Value) (v : Value) (i : Int) (Q : Value → Shared → Prop) (E : Value → Shared → Prop), env.scope.kind = .function → env.kindOf x = some .local → s.heap.Ns env.locals m → m x = some v → Fst s.heap v i →
    (∀ t tk, Q (.int (g i) t) { s with toks := tk }) → wpAny (model prog w) A (eval body env) Q E s
theorem body_fst {x : Str} {p1 p2 p3 : Pos} {j : Nat} (hd : (x == ("__debug__" : Str)) = false := by decide) (hs : PlainIx (.Constant (.int 0) j p2) := by exact fun _ _ => rfl) :
    KeyBody prog w x (.Subscript (.Name x p1) (.Constant (.int 0) j p2) p3) id := by
  intro A env s m v i Q E hk hl hn hm f h
  obtain ⟨t, its, tk, rfl, pl, hi⟩ := f
  refine Subscript_ (wpAny_Name (wpAny_loadName_local hk hl hn hm ?_) hd)
  refine wpAny_Constant_int ?_
  have hlt : 0 < its.length := (List.getElem?_eq_some_iff.mp hi).1
  refine subscriptTail_builtinR (x := .int i tk) (show IsTup _ t its.toArray from pl).typeIs slot_tuple_getitem.lookup
    (getItem_tuple (j := 0) (Q := fun r s' => r = Value.int i tk ∧ Q r s') (show IsTup _ t its.toArray from pl) (by decide) (by decide) ?_ (by simpa using hi) ⟨rfl, h _ _⟩) (hs _ _)
  exact seqIndex_of (by decide) (by rw [List.size_toArray]; omega)
theorem body_neg {x : Str} {p1 p2 p3 p4 : Pos} {j : Nat} (hd : (x == ("__debug__" : Str)) = false := by decide) (hs : PlainIx (.Constant (.int 0) j p2) := by exact fun _ _ => rfl) :
    KeyBody prog w x (.UnaryOp .USub (.Subscript (.Name x p1) (.Constant (.int 0) j p2) p3) p4) (fun i => -i) := by
  intro A env s m v i Q E hk hl hn hm f h
  refine UnaryOp_ (body_fst hd hs A env s m v i _ E hk hl hn hm f fun t tk => ?_)
  exact neg_int (h _ _)
/-- the lambda's scope: its one parameter is its one name -/
structure LamP (x : Str) (sc : Scope) : Prop where
  kind : sc.kind = .function
  co : sc.isCoroutine = false
  gen : sc.isGenerator = false
  cell : ∀ y ∈ sc.names, y.2 ≠ .cell
  free : ∀ y ∈ sc.names, y.2 ≠ .free
  loc : sc.names.lookup x = some .local
theorem lam_turn {f c' : Addr} {q x : Str} {params : Arguments} {body : Expr} {scope : Scope} {cl : List (Str × Addr)} {pm ctv v : Value} {g : Int → Int} {i : Int} (hroom : A.depth < recursionLimit)
    (ho : s.heap.get? f = some (PySem.W.kla_obj "<lambda>" q params body scope cl pm c' ctv)) (hcd : s.heap.CodeRec (.ref c') q)
    (hbind : bindArgs (PySem.W.kla_fn "<lambda>" q params body scope cl pm (.ref c') ctv) ⟨[v], []⟩ = pure [(x, v)]) (L : LamP x scope) (lim : s.heap.NoLimit) (B : KeyBody prog w x body g) (hf : Fst s.heap v i) :
    wpAny (model prog w) A (call (.ref f) [v]) (PySem.W.KeyPure (.int (g i)) s) (fun _ _ => False) s := by
  have rc : codeAny (model prog w) A (.call (.ref f) ⟨[v], []⟩) (fun r s' => ∃ u, r = .ok (.ret u) ∧ PySem.W.KeyPure (.int (g i)) s u s') s := by
    refine PySem.W.kla_callFunE hroom ho rfl L.co L.gen rfl hcd ?_
    rw [hbind]
    refine wpAny_pure (wpAny_newFunctionEnv L.cell (fun y hy => by rcases List.mem_singleton.mp hy with rfl; exact L.loc) (fun h₁ hns hsb => ⟨lim.fresh _ hsb, ?_⟩) L.kind)
    have kp : ∀ b o, s.heap.get? b = some o → h₁.get? b = some o := fun b o e => hsb.extBut b o (Nat.ne_of_lt (Heap.lt_size e)) (Heap.get?_push_of_some _ e)
    refine PySem.W.kla_codeExpr (B _ _ _ _ v i _ _ L.kind L.loc hns (by simp) (hf.keep kp) fun t tk => ?_)
    exact ⟨_, rfl, _, _, rfl, kp, .int _ _⟩
  refine wpAny_call (codeAny_mono rc fun r s' hq => ?_)
  obtain ⟨u, rfl, hq⟩ := hq
  exact hq
end
open LamX in
/-- what a built-in with key= asks of the state, the lambda made -/
def CallRL (X : Cx) (id : String) (q : Str) (params : Arguments) (body : Expr) (scope : Scope) (r : List V → Hp → VK → Prop) : Prop :=
  ∀ (pins : List (Addr × Obj)) (s : Shared) (σ : L2.St) (H : Hp) (xs : List V) (us : List Value) (f c' : Addr) (cl : List (Str × Addr)) (pm ctv : Value) (Q : VK), Inv X pins σ H s → Vals xs us → H c' = some (CodeO c' q) →
    s.heap.get? f = some (PySem.W.kla_obj "<lambda>" q params body scope cl pm c' ctv) → r xs H Q → wpAny (model X.prog X.w) X.A (call (.builtin id) us [(Str.ofString "key", .ref f)]) (EP X pins σ Q) X.xe s
open LamX in
def tLamR (T : List (Addr × Str)) (r : List V → Hp → VK → Prop) (t : TA) : TE := fun σ H Q => t σ H fun vs H1 => Tabs T H1 ∧ ∀ H2, ExtN H1 H2 → Tabs T H2 → r vs H2 Q
section
open LamX
variable {X : Cx} {x : Str} {p pos lpos kpos : Pos} {e : Expr} {es : List Expr} {t : TA} {id : String} {r : List V → Hp → VK → Prop} {params : Arguments} {body : Expr} {scope : Scope} {T : List (Addr × Str)} {c P : Addr}
theorem pe_callL (TB : TabB X.base X.mg c P) (hcode : X.env.code = .ref c) (hmT : (P, X.env.qual ++ "<lambda>") ∈ T) (hu : ∀ p ∈ T, p.1 = P → p.2 = X.env.qual ++ "<lambda>") (hc : CallRL X id (X.env.qual ++ "<lambda>") params body scope r)
    (hg : Gl X x) (hm : X.mg x = none) (hv : bootBuiltins x = some (.builtin id)) (ha : PA X (e :: es) t) (hdef : defaultsOf params X.env = ([], [])) (hfree : ∀ y ∈ scope.names, y.2 ≠ .free)
    (hn : x ≠ "__name__" := by decide) (hdb : (x == ("__debug__" : Str)) = false := by decide)
    (he : backTo pos (starEach (e :: es) X.env) = (false, eval e X.env) :: backTo pos (starEach es X.env) := by rfl) (hpl : (backTo pos (starEach (e :: es) X.env)).any (·.1) = false := by rfl) :
    PE X (.Call (.Name x p) (e :: es) [⟨some "key", .Lambda params body scope lpos, kpos⟩] pos) (tLamR T r t) := by
  refine ⟨fun pins s σ H Q I h => ?_⟩
  refine wpAny_Call_Name_kw (ld_blt I hg hm hv ?_ hn hdb)
  refine PyProof.Rows.callWith_kw (thn (ha.run pos pins s σ H _ I h) fun us s1 ⟨vs, H1, I1, r1, hT, q1⟩ => ?_) he hpl rfl rfl
  show wpAny _ _ (evalAll [(do let v ← eval (.Lambda params body scope lpos) X.env; standAt pos; pure v)]) _ _ s1
  refine wpAny_evalAll_cons (wpAny_bind (lam_make2 I1 TB hcode hmT hu hT hdef (fun y hy z => absurd z (hfree y hy)) fun f c' pm ctv H2 s2 I2 eN T2 hf hfn hfr hco => ?_))
  refine wpAny_bind (wpAny_standAt (wpAny_pure (wpAny_evalAll_nil ?_)))
  exact hc pins s2 σ H2 vs us f c' _ pm ctv Q I2 r1 hco hf (q1 H2 eN T2)
def rSortKey (K : PySem.W.Frag) (g : Int → Int) : List V → Hp → VK → Prop := fun vs H Q => ∃ (a : Addr) (xs : List V) (k : V → Int), vs = [V.ref a] ∧ SqL K H a xs ∧ (∀ y ∈ xs, ∃ t zs, y = V.ref t ∧ H t = some (.tup (.int (k y) :: zs))) ∧
  ∀ p, H p = none → Q (.ref p) (upd H p (.lst (xs.mergeSort fun y z => decide (g (k y) ≤ g (k z)))))
theorem each_refl {α : Type} : ∀ l : List α, PySem.W.EachIs (fun u x => u = x) l l
  | [] => .nil
  | _ :: l => .cons rfl (each_refl l)
theorem each_eq {α : Type} {l m : List α} (h : PySem.W.EachIs (fun u x => u = x) l m) : l = m := by
  induction h with
  | nil => rfl
  | cons e _ ih => rw [e, ih]
theorem cr_sortedLam {q y : Str} {g : Int → Int} (hr : Room 1 X.A) (L : LamP y scope) (B : KeyBody X.prog X.w y body g)
    (hbind : ∀ (cl : List (Str × Addr)) (pm ctv v : Value) (c' : Addr), bindArgs (PySem.W.kla_fn "<lambda>" q params body scope cl pm (.ref c') ctv) ⟨[v], []⟩ = pure [(y, v)]) :
    CallRL X "sorted" q params body scope (rSortKey X.K g) := by
  intro pins s σ H vs us f c' cl pm ctv Q I r hco hf h
  obtain ⟨a, xs, k, rfl, hs, hx, q⟩ := h
  obtain ⟨its, rv, hl, hz⟩ := I.list hs
  obtain rfl := Vals.ref1 r
  obtain ⟨e1, e2⟩ := refs_back rv fun x m => by
    obtain ⟨t, _, e, _⟩ := hx x m
    exact ⟨t, e⟩
  have hlen : its.length ≤ sizeLine := by rw [← rv.length]; exact hz
  obtain ⟨⟨oc, cvs, ct, hoc, hdc, hvc⟩, _, _⟩ := I.hok c' _ hco
  have fst : ∀ v ∈ its, Fst s.heap v (k (backV v)) := fun v hv => by
    obtain ⟨t, rfl⟩ := e2 v hv
    have hm : V.ref t ∈ xs := by rw [e1]; exact List.mem_map.mpr ⟨_, hv, rfl⟩
    obtain ⟨t', zs, e, ht⟩ := hx _ hm
    cases e
    obtain ⟨_, its2, r2, ht2⟩ := I.hok _ _ ht
    cases r2 with
    | cons r0 r1 =>
      obtain ⟨tk, rfl⟩ := r0
      exact ⟨t, _, tk, rfl, ht2, rfl⟩
  refine PySem.W.sorted_key_data (β := Value) (bs := its) (R := fun u x => u = x) (b := false) (fun u => PyData.int (g (k (backV u)))) hl.isList (each_refl its) ?_ ?_ hlen (fun x _ => ?_) (PyProof.Rows.ksk_s1 _ _) (fun _ => PyProof.Rows.ksk_l1 _ _) (fun x => PyProof.Rows.ksk_t1 _ _) (fun v x e hx h tk kp => ?_) fun out c h' tk kp hn hd hlo hE => ?_
  · intro d hd d' hd'
    obtain ⟨u, _, rfl⟩ := List.mem_map.mp hd
    obtain ⟨u', _, rfl⟩ := List.mem_map.mp hd'
    rfl
  · refine .inr fun d hd => ?_
    obtain ⟨u, _, rfl⟩ := List.mem_map.mp hd
    exact ⟨(by intro z; cases z), fun xs z => by cases z⟩
  · have := hr.un
    show X.A.units + 2 + 0 < cLine
    omega
  · subst e
    refine lam_turn (s := { s with heap := h, toks := tk }) ?_ (kp _ _ hf) ⟨c', oc, cvs, ct, rfl, kp _ _ hoc, hdc, hvc⟩ (hbind _ _ _ _ _) L (I.nolimit.keeps kp) B ((fst _ hx).keep kp)
    have := hr.dp
    show X.A.depth < _
    omega
  · have e3 : out = its.mergeSort (fun u u' => decide (g (k (backV u)) ≤ g (k (backV u')))) := by
      rw [each_eq hE]
      rw [PySem.W.dataLe_int (fun u : Value => g (k (backV u)))]
    have e4 : out.map backV = xs.mergeSort fun y z => decide (g (k y) ≤ g (k z)) := by
      rw [e3, e1, List.map_mergeSort]
      intro a _ b _
      rfl
    have hr2 : ∀ u ∈ out, ∃ a, u = Value.ref a := fun u hu => by
      rw [e3] at hu
      exact e2 u (List.mem_mergeSort.mp hu)
    have I2 := I.laid (t' := tk) (o := .lst (out.map backV)) kp (Nat.le_succ _) ⟨by rw [List.length_map, hlo]; exact hlen, out, c, vals_back hr2, hd⟩
    rw [e4] at I2
    exact ⟨.ref _, _, I2, rfl, q _ (I.hok.fresh (Nat.le_succ _))⟩
end
end Far

namespace Far
open PySem PySem.Spec PyProof.Rows L2 LamX
open C8 (pss_cut tCut)
open SX (S)
/-! ### what stands but for tables -/
theorem TK.ofN {H H' : Hp} (e : ExtN H H') : TK H H' := ⟨fun a xs h => e _ _ h (fun ps z => by cases z), fun a o u h => e _ _ h (fun ps z => by cases z)⟩
/-- the pairs, farthest first, equally far ones in their order -/
noncomputable def byFar (pl : List Nm) (ts : List Tie) : List Tri := (pairsOf pl ts).mergeSort fun x y => decide (-x.1 ≤ -y.1)
theorem byFar_len (pl : List Nm) (ts : List Tie) : (byFar pl ts).length = (pairsOf pl ts).length := List.length_mergeSort _
noncomputable def nthD (pl : List Nm) (ts : List Tie) (n : Int) : PyData := if 0 ≤ n then match (byFar pl ts)[n.toNat]? with | some x => triD x | none => .none else .none
open Classical in
/-- the first item of the tuple at y -/
noncomputable def fstK (H : Hp) (y : V) : Int := if h : ∃ n, ∃ t zs, y = V.ref t ∧ H t = some (.tup (.int n :: zs)) then h.choose else 0
theorem fstK_is {H : Hp} {t : Addr} {n : Int} {zs : List V} (h : H t = some (.tup (.int n :: zs))) : fstK H (.ref t) = n := by
  have q : ∃ n, ∃ t' zs, V.ref t = V.ref t' ∧ H t' = some (.tup (.int n :: zs)) := ⟨n, t, zs, rfl, h⟩
  unfold fstK
  rw [dif_pos q]
  obtain ⟨t', zs', e, h'⟩ := q.choose_spec
  cases e
  rw [h] at h'
  cases h'
  rfl
/-- sorted alike: values and what they read as -/
theorem dtall_sort {H : Hp} {ws : List V} {ps : List Tri} (h : DtAll H ws (ps.map triD)) :
    DtAll H (ws.mergeSort fun y z => decide (-(fstK H y) ≤ -(fstK H z))) ((ps.mergeSort fun x y => decide (-x.1 ≤ -y.1)).map triD) ∧ ∀ y ∈ ws, ∃ t zs, y = V.ref t ∧ H t = some (.tup (.int (fstK H y) :: zs)) := by
  have hl := DtAll.len h
  rw [List.length_map] at hl
  have at_ : ∀ q ∈ ws.zip ps, Dt H q.1 (triD q.2) := fun q hq => by
    obtain ⟨i, hi⟩ := List.getElem?_of_mem hq
    rw [List.getElem?_zip_eq_some] at hi
    obtain ⟨d, h1, h2⟩ := DtAll.get h hi.1
    rw [List.getElem?_map, hi.2] at h1
    cases h1
    exact h2
  have key : ∀ q ∈ ws.zip ps, fstK H q.1 = q.2.1 ∧ ∃ t zs, q.1 = V.ref t ∧ H t = some (.tup (.int q.2.1 :: zs)) := fun q hq => by
    obtain ⟨u, e, hu⟩ := dt_tri (at_ q hq)
    rw [e]
    exact ⟨fstK_is hu, u, _, rfl, hu⟩
  have e1 : (ws.zip ps).map (·.1) = ws := by rw [List.map_fst_zip]; omega
  have e2 : (ws.zip ps).map (·.2) = ps := by rw [List.map_snd_zip]; omega
  refine ⟨?_, fun y hy => ?_⟩
  · have m1 := List.map_mergeSort (r := fun p q : V × Tri => decide (-p.2.1 ≤ -q.2.1)) (s := fun y z => decide (-(fstK H y) ≤ -(fstK H z))) (f := fun q : V × Tri => q.1) (l := ws.zip ps) (fun a ha b hb => by
      rw [(key a ha).1, (key b hb).1])
    have m2 := List.map_mergeSort (r := fun p q : V × Tri => decide (-p.2.1 ≤ -q.2.1)) (s := fun x y : Tri => decide (-x.1 ≤ -y.1)) (f := fun q : V × Tri => q.2) (l := ws.zip ps) (fun a _ b _ => rfl)
    rw [e1] at m1
    rw [e2] at m2
    rw [← m1, ← m2]
    have all : ∀ l : List (V × Tri), (∀ q ∈ l, Dt H q.1 (triD q.2)) → DtAll H (l.map (·.1)) ((l.map (·.2)).map triD) := fun l => by
      induction l with
      | nil => exact fun _ => .nil
      | cons q l ih => exact fun hq => .cons (hq q List.mem_cons_self) (ih fun q' h' => hq q' (List.mem_cons_of_mem _ h'))
    exact all _ fun q hq => at_ q (List.mem_mergeSort.mp hq)
  · rw [← e1] at hy
    obtain ⟨q, hq, rfl⟩ := List.mem_map.mp hy
    obtain ⟨k1, t, zs, k2, k3⟩ := key q hq
    exact ⟨t, zs, k2, by rw [k1]; exact k3⟩

/-- a def whose code object stands at c -/
structure FunC (K : PySem.W.Frag) (x qual : Str) (st : Stmt) (f : Addr) (fd : FuncData) (c : Addr) : Prop where
  ex : ∃ (oc : Value) (od : Option Addr) (kV doc pm : Value) (an : Option Addr) (ct : Value) (osl : Array (Option Value)),
    fd = PySem.W.fnOf x qual (defArgs st) (defBody st) (defScope st) .none kV doc pm an (.ref c) ct ∧ K.lookup f = some ⟨oc, od, .func fd, osl⟩ ∧ PySem.W.codeIn K (.ref c) qual = true
section
variable {P : Program} {w : World} {K : PySem.W.Frag} {mg : Str → Option Value} {base : Heap}
theorem FunC.ok {x qual : Str} {st : Stmt} {f c : Addr} {fd : FuncData} {N ps : List Str} {k : Nat} {sp : Sp} (F : FunC K x qual st f fd c) (S : FnScope N ps (defScope st)) (len : ∀ vs H Q E, sp vs H Q E → vs.length = ps.length)
    (hbody : ∀ (A : Around) (outer : List Env) (s : Shared) (H : Hp) (vs : List V) (Q : VK) (E : XK), Room k (A.deeper (envOfC qual (defScope st) s.heap.objs.size f (.ref c))) → sp vs H Q E →
      ∃ t, PSs (cxOf CX0 P w K mg base N qual (defScope st) f (.ref c) A outer s H E).nox (defBody st) t ∧ t { nx := fun _ H' => Q .non H', rt := Q } (start N vs) H) : FnOk P w K mg base CX0 (k + 1) f fd ps sp := by
  obtain ⟨oc, od, kV, doc, pm, an, ct, osl, rfl, lk, hcd⟩ := F.ex
  refine fn_of lk hcd S len fun A outer s H vs Q E hr hsp => ?_
  obtain ⟨t, h, q⟩ := hbody A outer s H vs Q E hr hsp
  exact ⟨t, h.nox, q⟩
end
theorem bt_sorted : bootBuiltins ("sorted" : Str) = some (.builtin "sorted") := by decide +kernel
structure TxtN (mg : Str → Option Value) : Prop where
  len : mg "len" = none
  sorted : mg "sorted" = none
abbrev s_nth_farthest : Stmt := topS 9
abbrev N_nth_farthest : List Str := ["tree", "place", "pairs"]
theorem sc_nth_farthest : FnScope N_nth_farthest ["tree", "place"] (defScope s_nth_farthest) := ⟨rfl, rfl, rfl, by decide +kernel, rfl, by decide +kernel, by decide +kernel⟩
def qLam : Str := ("nth_farthest" : Str) ++ ".<locals>." ++ "<lambda>"
section
variable {P : Program} {w : World} {K : PySem.W.Frag} {mg : Str → Option Value} {base : Heap}
def spNth (Pt : Addr) : Sp := fun vs H Q _ => ∃ (v : V) (pl : List Nm) (ts : List Tie) (n : Int), vs = [v, .int n] ∧ Dt H v (treeD pl ts) ∧ Fine pl ts ∧ Tabs [(Pt, qLam)] H ∧ ∀ (H' : Hp) (r : V), ExtN H H' → Tabs [(Pt, qLam)] H' → Dt H' r (nthD pl ts n) → Q r H'
theorem ok_nth {f c Pt : Addr} {fd : FuncData} (F : FunC K "nth_farthest" "nth_farthest" s_nth_farthest f fd c) (T : TxtN mg) (TB : TabB base mg c Pt) (Cpairs_in_order : Cal P w K mg base 4 "pairs_in_order" spPio) : FnOk P w K mg base CX0 5 f fd ["tree", "place"] (spNth Pt) := by
  refine F.ok sc_nth_farthest (fun vs H Q E h => ?_) (fun A outer s H vs Q E hr h => ?_)
  · obtain ⟨v, pl, ts, n, rfl, _⟩ := h
    rfl
  · obtain ⟨v, pl, ts, n, rfl, hd, fine, hT, q⟩ := h
    refine ⟨_, (pss_cons (ps_set (i := 2) sc_nth_farthest.nd rfl (.inl rfl) (pe_callL TB (by rfl) (List.mem_cons_self) (fun p hp _ => by rw [List.mem_singleton.mp hp]) (cr_sortedLam (y := "pair") (g := fun i => -i) (hr.mono (by decide)) (by exact ⟨rfl, rfl, rfl, by decide, by decide, rfl⟩) body_neg (fun _ _ _ _ _ => rfl)) (by rfl) T.sorted bt_sorted (pa_cons (pe_c Cpairs_in_order hr (by decide) rfl (pa_cons (pv 0) pa_nil)) pa_nil) (by rfl) (by decide)))
      (pss_cut (ps_if (pt_chain op_le op_lt pe_int (pv 1) (pe_callB call_len_seq (by rfl) T.len bt_len (pa_cons (pv 2) pa_nil)))
        (pss_one (ps_ret (pe_ix ix_list (pv 2) (pv 1) (fun _ _ => rfl))))
        pss_nil)
      (pss_one (ps_ret pe_non)))), ?_⟩
    refine ⟨_, rfl, v, pl, ts, rfl, hd, fine, fun H1 D ws S1 nD hD hW => ?_⟩
    refine ⟨hT.ext S1, fun H2 e2 T2 => ?_⟩
    have hW2 := DtAll.keep (TK.ofN e2) hW
    obtain ⟨srt, key⟩ := dtall_sort hW2
    refine ⟨D, ws, fstK H2, rfl, SqL.of (e2 _ _ hD (fun ps z => by cases z)), key, fun p np => ?_⟩
    have hl : (ws.mergeSort fun y z => decide (-fstK H2 y ≤ -fstK H2 z)).length = (byFar pl ts).length := by
      have := DtAll.len srt
      rw [List.length_map] at this
      exact this
    show _
    generalize ess : (ws.mergeSort fun y z => decide (-fstK H2 y ≤ -fstK H2 z)) = ss at srt hl
    have T3 : Tabs [(Pt, qLam)] (upd H2 p (.lst ss)) := Tabs.ext T2 fun b o h => by rw [upd_ne (ne_of_none h np)]; exact h
    have e3 : ExtN H (upd H2 p (.lst ss)) := fun b o h n => by
      have h2 := e2 b o (S1 b o h) n
      rw [upd_ne (ne_of_none h2 np)]
      exact h2
    have srt3 := DtAll.keep (TK.new (o := .lst ss) np) srt
    have hp : (upd H2 p (.lst ss)) p = some (.lst ss) := upd_same
    simp only [ess]
    generalize upd H2 p (.lst ss) = H3 at T3 e3 srt3 hp
    refine ⟨fun σ' H' => H' = H3 ∧ nthD pl ts n = .none, ?_, fun σ' H' hM => ?_⟩
    · refine ⟨_, rfl, _, _, rfl, rfl, _, rfl, ?_⟩
      by_cases c0 : 0 ≤ n
      · rw [if_pos (decide_eq_true c0)]
        refine ⟨_, rfl, p, _, rfl, .inl (SqL.of hp), _, _, rfl, rfl, _, rfl, ?_⟩
        refine ite2 (fun z => ?_) (fun z => ?_)
        · have z : n < (ss.length : Int) := of_decide_eq_true z
          have lt : n.toNat < ss.length := by omega
          have hn : ss[n.toNat]? = some ss[n.toNat] := List.getElem?_eq_getElem lt
          generalize ss[n.toNat] = v1 at hn
          have hv1 : atI ss n = some v1 := by
            have e : n = ((n.toNat : Nat) : Int) := by omega
            rw [e]
            exact atI_nat (by simpa using hn)
          refine ⟨_, rfl, _, rfl, p, _, n, v1, rfl, rfl, SqL.of hp, hv1, ?_⟩
          refine q _ _ e3 T3 ?_
          obtain ⟨d, h1, h2⟩ := DtAll.get srt3 hn
          unfold nthD
          rw [if_pos c0]
          rw [List.getElem?_map] at h1
          show Dt _ _ (match (byFar pl ts)[n.toNat]? with | some x => triD x | none => .none)
          cases eb : (byFar pl ts)[n.toNat]? with
          | none =>
            have : ((pairsOf pl ts).mergeSort fun x y => decide (-x.1 ≤ -y.1))[n.toNat]? = none := eb
            rw [this] at h1
            cases h1
          | some x =>
            have : ((pairsOf pl ts).mergeSort fun x y => decide (-x.1 ≤ -y.1))[n.toNat]? = some x := eb
            rw [this] at h1
            cases h1
            exact h2
        · refine ⟨rfl, ?_⟩
          have z : ¬ n < (ss.length : Int) := of_decide_eq_false (by simpa using z)
          unfold nthD
          rw [if_pos c0]
          have : (byFar pl ts)[n.toNat]? = none := List.getElem?_eq_none (by omega)
          rw [this]
      · rw [if_neg (by simpa using c0)]
        refine ⟨_, rfl, ?_⟩
        refine iteF ⟨rfl, ?_⟩
        unfold nthD
        rw [if_neg c0]
    · obtain ⟨rfl, hN⟩ := hM
      exact q _ _ e3 T3 (by rw [hN]; exact .non)
end
end Far

namespace Far
open PySem PySem.Spec PyProof.Rows L2 LamX
abbrev leF : Tri → Tri → Bool := fun x y => decide (-x.1 ≤ -y.1)
theorem leF_trans (a b c : Tri) (h1 : leF a b = true) (h2 : leF b c = true) : leF a c = true := by
  have h1 := of_decide_eq_true h1
  have h2 := of_decide_eq_true h2
  exact decide_eq_true (by omega)
theorem leF_total (a b : Tri) : (leF a b || leF b a) = true := by
  by_cases h : -a.1 ≤ -b.1
  · rw [show leF a b = true from decide_eq_true h]
    rfl
  · rw [show leF b a = true from decide_eq_true (by omega), Bool.or_true]
/-- refs sorted by their pairs of length and place: the triples in the stable order -/
theorem order_math {ps : List Tri} {as ys : List V} {kk : V → Int × Int} (hk : ∀ (j : Nat) (y : V), as[j]? = some y → ∃ p, ps[j]? = some p ∧ kk y = (0 - p.1, (j : Int))) (hl : as.length = ps.length) (hs : SrtO.Srtd (ltP kk) ys) (hp : ys.Perm as) :
    (ys.map fun y => ps.getD (kk y).2.toNat (0, [], [])) = ps.mergeSort leF := by
  have h1 : as.map (fun y => ((ps.getD (kk y).2.toNat (0, [], []) : Tri), (kk y).2.toNat)) = ps.zipIdx := by
    refine List.ext_getElem? fun j => ?_
    rw [List.getElem?_map, List.getElem?_zipIdx]
    cases ea : as[j]? with
    | none =>
      have : ps[j]? = none := by
        rw [List.getElem?_eq_none_iff] at ea ⊢
        omega
      rw [this]
      rfl
    | some y =>
      obtain ⟨p, e1, e2⟩ := hk j y ea
      rw [e1]
      have e3 : (kk y).2.toNat = j := by rw [e2]; exact Int.toNat_natCast j
      simp only [Option.map_some, e3]
      rw [show ps.getD j (0, [], []) = p by rw [List.getD_eq_getElem?_getD, e1]; rfl, Nat.zero_add]
  have h2 := h1 ▸ hp.map (fun y => ((ps.getD (kk y).2.toNat (0, [], []) : Tri), (kk y).2.toNat))
  have mem : ∀ y ∈ ys, ∃ (j : Nat) (p : Tri), ps[j]? = some p ∧ kk y = (0 - p.1, (j : Int)) := fun y hy => by
    obtain ⟨j, hj⟩ := List.getElem?_of_mem (hp.mem_iff.mp hy)
    obtain ⟨p, e1, e2⟩ := hk j y hj
    exact ⟨j, p, e1, e2⟩
  have h3 : (ys.map (fun y => ((ps.getD (kk y).2.toNat (0, [], []) : Tri), (kk y).2.toNat))).Pairwise (fun a b => List.zipIdxLE leF a b = true) := by
    rw [List.pairwise_map]
    refine List.Pairwise.imp_of_mem (fun {x y} hx hy h => ?_) hs
    obtain ⟨j, p, e1, e2⟩ := mem x hx
    obtain ⟨j', p', e1', e2'⟩ := mem y hy
    have q := SrtO.lexB_no.mp h
    rw [e2, e2'] at q
    simp only at q
    have t1 : (kk x).2.toNat = j := by rw [e2]; exact Int.toNat_natCast j
    have t2 : (kk y).2.toNat = j' := by rw [e2']; exact Int.toNat_natCast j'
    rw [t1, t2, show ps.getD j (0, [], []) = p by rw [List.getD_eq_getElem?_getD, e1]; rfl, show ps.getD j' (0, [], []) = p' by rw [List.getD_eq_getElem?_getD, e1']; rfl]
    unfold List.zipIdxLE
    by_cases c1 : -p.1 ≤ -p'.1
    · rw [if_pos (show leF p p' = true from decide_eq_true c1)]
      by_cases c2 : -p'.1 ≤ -p.1
      · rw [if_pos (show leF p' p = true from decide_eq_true c2)]
        exact decide_eq_true (by omega)
      · rw [if_neg (by show ¬ leF p' p = true; intro z; exact c2 (of_decide_eq_true z))]
    · omega
  have h4 := List.pairwise_mergeSort (le := List.zipIdxLE leF) (List.zipIdxLE_trans leF_trans) (List.zipIdxLE_total leF_total) ps.zipIdx
  have h5 := List.Perm.eq_of_pairwise (le := fun a b => List.zipIdxLE leF a b = true) (fun a b ha hb q1 q2 => ?_) h3 h4 (h2.trans (List.mergeSort_perm _ _).symm)
  · rw [← List.mergeSort_zipIdx, ← h5, List.map_map]
    rfl
  · have ha' := h2.mem_iff.mp ha
    have hb' := List.mem_mergeSort.mp hb
    rw [List.mem_zipIdx_iff_getElem?] at ha' hb'
    unfold List.zipIdxLE at q1 q2
    have c1 : leF a.1 b.1 = true := by
      by_cases c : leF a.1 b.1 = true
      · exact c
      · rw [if_neg c] at q1
        cases q1
    have c2 : leF b.1 a.1 = true := by
      by_cases c : leF b.1 a.1 = true
      · exact c
      · rw [if_neg c] at q2
        cases q2
    rw [if_pos c1, if_pos c2] at q1
    rw [if_pos c2, if_pos c1] at q2
    have e : a.2 = b.2 := Nat.le_antisymm (of_decide_eq_true q1) (of_decide_eq_true q2)
    rw [e, hb'] at ha'
    exact Prod.ext (Option.some.inj ha').symm e
end Far

namespace Far
open PySem PySem.Spec PyProof.Rows L2
open C8 (pss_cut tCut)
open SX (S)
/-- a walk of a comprehension over enumerate(list) -/
theorem enum_it {K : PySem.W.Frag} {a : Addr} {xs : List V} {g : TG} {tt : TT} {te : TE} {vs : List Nat} {σ : L2.St} {H1 : Hp} {D : Addr} {Qd : Hp → Prop} (Pv : Nat → Hp → Prop) (h0 : Pv 0 (upd H1 D (.lst []))) (hl : ∀ i H, Pv i H → SqL K H a xs)
    (hs : ∀ i x H T, xs[i]? = some x → Pv i H → H T = none → g (.ref T) (wipe σ vs) (upd H T (.tup [.int (i : Nat), x])) fun σ2 H2 => wipe σ2 vs = wipe σ vs ∧ tt σ2 H2 fun b H3 =>
      if b = true then te σ2 H3 fun y H4 => ∃ acc, H4 D = some (.lst acc) ∧ acc.length < sizeLine ∧ Pv (i + 1) (upd H4 D (.lst (acc ++ [y]))) else Pv (i + 1) H3) (hd : ∀ H, Pv xs.length H → Qd H) :
    ∃ W : Nat → Nat → Hp → Prop, (∃ m, W 0 m (upd H1 D (.lst []))) ∧ ∀ i m H, W i m H →
      ((Ite K a).stop i H ∧ Qd H) ∨ ((Ite K a).go i H ∧ ∃ Nx : Hp → Prop, (∀ H', Nx H' → ∃ m', m' < m ∧ W (i + 1) m' H') ∧ ∀ v H', (Ite K a).yld i H v H' → g v (wipe σ vs) H' fun σ2 H2 => wipe σ2 vs = wipe σ vs ∧ tt σ2 H2 fun b H3 =>
        if b = true then te σ2 H3 fun y H4 => ∃ acc, H4 D = some (.lst acc) ∧ acc.length < sizeLine ∧ Nx (upd H4 D (.lst (acc ++ [y]))) else Nx H3) := by
  refine ⟨fun i m H => m = xs.length - i ∧ i ≤ xs.length ∧ Pv i H, ⟨xs.length, by simp, Nat.zero_le _, h0⟩, fun i m H ⟨em, hi, p⟩ => ?_⟩
  have q1 := hl i H p
  by_cases lt : i < xs.length
  · refine .inr ⟨⟨xs, xs[i], q1, by simp [lt]⟩, Pv (i + 1), fun H' p' => ⟨xs.length - (i + 1), by omega, rfl, lt, p'⟩, fun v H' ⟨T, x, ev, nT, eH, hx⟩ => ?_⟩
    rw [ev, eH]
    exact hs i x H T (hx xs q1) p nT
  · have e : i = xs.length := by omega
    rw [e] at p
    exact .inl ⟨⟨xs, q1, by omega⟩, hd H p⟩

structure TxtO (mg : Str → Option Value) : Prop where
  sorted : mg "sorted" = none
  enumerate : mg "enumerate" = none
open Classical in
/-- the two whole numbers of the pair at y -/
noncomputable def twoK (H : Hp) (y : V) : Int × Int := if h : ∃ n : Int × Int, ∃ t, y = V.ref t ∧ H t = some (.tup [.int n.1, .int n.2]) then h.choose else (0, 0)
theorem twoK_is {H : Hp} {t : Addr} {n m : Int} (h : H t = some (.tup [.int n, .int m])) : twoK H (.ref t) = (n, m) := by
  have q : ∃ n : Int × Int, ∃ t', V.ref t = V.ref t' ∧ H t' = some (.tup [.int n.1, .int n.2]) := ⟨(n, m), t, rfl, h⟩
  unfold twoK
  rw [dif_pos q]
  obtain ⟨t', e, h'⟩ := q.choose_spec
  cases e
  rw [h] at h'
  have z := Option.some.inj h'
  injection z with z
  injection z with z1 z2
  injection z2 with z2 _
  injection z1 with z1
  injection z2 with z2
  exact Prod.ext z1.symm z2.symm
abbrev s_law_in_order : Stmt := topS 21
abbrev N_law_in_order : List Str := ["pairs", "numbered", "length", "at", "pair"]
theorem sc_law_in_order : FnScope N_law_in_order ["pairs"] (defScope s_law_in_order) := ⟨rfl, rfl, rfl, by decide +kernel, rfl, by decide +kernel, by decide +kernel⟩
section
variable {P : Program} {w : World} {K : PySem.W.Frag} {mg : Str → Option Value} {base : Heap}
def spInOrder : Sp := fun vs H Q _ => ∃ (D : Addr) (ws : List V) (ps : List Tri), vs = [.ref D] ∧ H D = some (.lst ws) ∧ DtAll H ws (ps.map triD) ∧ ps.length ≤ 1000000 ∧ ∀ (H' : Hp) (D' : Addr) (ws' : List V), Same H H' → H D' = none → H' D' = some (.lst ws') → DtAll H' ws' ((ps.mergeSort leF).map triD) → Q (.ref D') H'
theorem ok_in_order {f : Addr} {fd : FuncData} (F : Fun K "_law_in_order" "_law_in_order" s_law_in_order f fd) (T : TxtO mg) : FnOk P w K mg base CX0 1 f fd ["pairs"] spInOrder := by
  refine F.ok sc_law_in_order (fun vs H Q E h => ?_) (fun cdv A outer s H vs Q E hr h => ?_)
  · obtain ⟨D, ws, ps, rfl, _⟩ := h
    rfl
  · obtain ⟨D, ws, ps, rfl, hD, hW, pl, q⟩ := h
    have wl := DtAll.len hW
    rw [List.length_map] at wl
    refine ⟨_, (pss_cons (ps_set (i := 1) sc_law_in_order.nd rfl (.inl rfl) (pe_callB cr_sortedPO (by rfl) T.sorted bt_sorted (pa_cons (pe_lc (own := [("at", 3), ("pair", 4)]) (g := gTup K 2 (gCons (gName 3) (gCons (gName 4) gNil))) (tt := tYes) rfl sc_law_in_order.nd (pi_enum (by rfl) T.enumerate (pa_cons (pv 0) pa_nil)) (blkOk_by (N := N_law_in_order) (sc := defScope s_law_in_order) (by decide +kernel)) (fun _ _ _ _ _ => (pg_tup rfl (pgs_cons (pg_name (i := 3) sc_law_in_order.nd rfl (.inl rfl)) (pgs_cons (pg_name (i := 4) sc_law_in_order.nd rfl (.inl rfl)) pgs_nil)))) (fun _ _ _ _ _ => pts_nil) (fun _ _ _ _ _ => (pe_tup (pa_cons (pe_op op_sub pe_int (pe_ix (ixt (K := K)) (pv 4) pe_int (fun _ _ => rfl))) (pa_cons (pv 3) pa_nil))))) pa_nil)))
      (pss_one (ps_ret (pe_lc (own := [("length", 2), ("at", 3)]) (g := gTup K 2 (gCons (gName 2) (gCons (gName 3) gNil))) (tt := tYes) rfl sc_law_in_order.nd (pi_list (pv 1)) (blkOk_by (N := N_law_in_order) (sc := defScope s_law_in_order) (by decide +kernel)) (fun _ _ _ _ _ => (pg_tup rfl (pgs_cons (pg_name (i := 2) sc_law_in_order.nd rfl (.inl rfl)) (pgs_cons (pg_name (i := 3) sc_law_in_order.nd rfl (.inl rfl)) pgs_nil)))) (fun _ _ _ _ _ => pts_nil) (fun _ _ _ _ _ => (pe_ix (ixl (K := K)) (pv 0) (pv 3) (fun _ _ => rfl))))))), ?_⟩
    refine ⟨_, rfl, D, ws, rfl, SqL.of hD, fun C nC => ?_⟩
    refine enum_it (K := K) (a := D) (xs := ws) (fun i H' => Same H H' ∧ ∃ as : List V, H' C = some (.lst as) ∧ as.length = i ∧ ∀ (j : Nat) (y : V), as[j]? = some y → ∃ (p : Tri) (t : Addr), ps[j]? = some p ∧ y = V.ref t ∧ H' t = some (.tup [.int (0 - p.1), .int (j : Int)])) ⟨same_new (Same.refl H) nC, [], upd_same, rfl, fun j y z => by simp at z⟩ (fun i H' hP => SqL.of (hP.1 _ _ hD)) (fun i v H' T hi hP nT => ?_) (fun H' hP => ?_)
    · obtain ⟨SM, as, hC, al, ha⟩ := hP
      obtain ⟨d, hd, hx⟩ := DtAll.get hW hi
      rw [List.getElem?_map] at hd
      cases ee : ps[i]? with
      | none => rw [ee] at hd; cases hd
      | some x =>
        rw [ee] at hd
        have ed : d = triD x := (Option.some.inj hd).symm
        subst ed
        obtain ⟨u2, rfl, hu2⟩ := dt_tri hx
        have S3 := same_new (o := .tup [.int (i : Nat), .ref u2]) SM nT
        have il : i < ps.length := (List.getElem?_eq_some_iff.mp ee).1
        refine ⟨T, _, rfl, SqT.of upd_same, rfl, _, _, rfl, _, _, rfl, rfl, rfl, _, rfl, u2, _, 0, .int x.1, rfl, rfl, SqT.of (S3 _ _ hu2), rfl, _, _, rfl, rfl, _, rfl, (by show 2 ≤ sizeLine; decide), fun r nr => ?_⟩
        have hC3 : (upd (upd H' T (.tup [.int (i : Nat), .ref u2])) r (.tup [.int (0 - x.1), .int (i : Nat)])) C = some (.lst as) := by
          have h1 : (upd H' T (.tup [.int (i : Nat), .ref u2])) C = some (.lst as) := by rw [upd_ne (ne_of_none hC nT)]; exact hC
          rw [upd_ne (ne_of_none h1 nr)]
          exact h1
        have hr3 : (upd (upd H' T (.tup [.int (i : Nat), .ref u2])) r (.tup [.int (0 - x.1), .int (i : Nat)])) r = some (.tup [.int (0 - x.1), .int (i : Nat)]) := upd_same
        have S4 := same_new (o := .tup [.int (0 - x.1), .int (i : Nat)]) S3 nr
        have S5 : Same H' (upd (upd H' T (.tup [.int (i : Nat), .ref u2])) r (.tup [.int (0 - x.1), .int (i : Nat)])) := same_new (same_new (Same.refl H') nT) nr
        generalize upd (upd H' T (.tup [.int (i : Nat), .ref u2])) r (.tup [.int (0 - x.1), .int (i : Nat)]) = H5 at hC3 hr3 S4 S5
        refine ⟨as, hC3, by rw [al]; exact szM (by omega), same_put S4 nC, as ++ [.ref r], upd_same, by rw [List.length_append, al]; rfl, fun j y hj => ?_⟩
        by_cases c : j < as.length
        · rw [List.getElem?_append_left c] at hj
          obtain ⟨p, t, h1, h2, h3⟩ := ha j y hj
          have h4 := S5 _ _ h3
          refine ⟨p, t, h1, h2, ?_⟩
          rw [upd_ne (ne_of h4 hC3 (fun z => by cases z))]
          exact h4
        · have hj' := (List.getElem?_eq_some_iff.mp hj).1
          rw [List.length_append, List.length_singleton] at hj'
          have ej : j = i := by omega
          subst ej
          rw [← al, List.getElem?_append_right (Nat.le_refl _), Nat.sub_self] at hj
          have ey : y = .ref r := (Option.some.inj hj).symm
          refine ⟨x, r, ee, ey, ?_⟩
          rw [upd_ne (ne_of hr3 hC3 (fun z => by cases z))]
          exact hr3
    · obtain ⟨SM, as, hC, al, ha⟩ := hP
      have kk : ∀ (j : Nat) (y : V), as[j]? = some y → ∃ p, ps[j]? = some p ∧ twoK H' y = (0 - p.1, (j : Int)) := fun j y hj => by
        obtain ⟨p, t, h1, h2, h3⟩ := ha j y hj
        exact ⟨p, h1, by rw [h2]; exact twoK_is h3⟩
      refine ⟨C, as, twoK H', rfl, SqL.of hC, fun y hy => ?_, fun ys p srt stb np => ?_⟩
      · obtain ⟨j, hj⟩ := List.getElem?_of_mem hy
        obtain ⟨p, t, h1, h2, h3⟩ := ha j y hj
        refine ⟨t, h2, ?_⟩
        rw [h2, twoK_is h3]
        exact h3
      · have om := order_math kk (by omega) srt stb.perm
        have mem : ∀ y ∈ ys, ∃ (j : Nat) (q : Tri) (t : Addr), ps[j]? = some q ∧ y = .ref t ∧ H' t = some (.tup [.int (0 - q.1), .int (j : Int)]) ∧ twoK H' y = (0 - q.1, (j : Int)) := fun y hy => by
          obtain ⟨j, hj⟩ := List.getElem?_of_mem (stb.perm.mem_iff.mp hy)
          obtain ⟨q, t, h1, h2, h3⟩ := ha j y hj
          exact ⟨j, q, t, h1, h2, h3, by rw [h2]; exact twoK_is h3⟩
        have yl : ys.length ≤ 1000000 := by rw [stb.perm.length_eq]; omega
        have S2 := same_new (o := .lst ys) SM np
        have S3 : Same H' (upd H' p (.lst ys)) := same_new (Same.refl H') np
        have hp : (upd H' p (.lst ys)) p = some (.lst ys) := upd_same
        generalize upd H' p (.lst ys) = H2 at S2 S3 hp
        refine ⟨_, rfl, p, rfl, ⟨_, SqL.of hp⟩, fun E nE => ?_⟩
        refine lc_list (K := K) (a := p) (xs := ys) (fun i H3 => Same H2 H3 ∧ ∃ zs, H3 E = some (.lst zs) ∧ zs.length = i ∧ DtAll H2 zs (((ys.take i).map fun y => ps.getD (twoK H' y).2.toNat (0, [], [])).map triD)) ⟨same_new (Same.refl H2) nE, [], upd_same, rfl, .nil⟩ (fun i H3 _ hP => SqL.of (hP.1 _ _ hp)) (fun i v H3 hi hP => ?_) (fun H3 hP => ?_)
        · obtain ⟨sm, zs, hE, zl, hz⟩ := hP
          obtain ⟨j, x, t, e1, rfl, e3, e4⟩ := mem v (List.mem_of_getElem? hi)
          have jl : j < ws.length := by
            have := (List.getElem?_eq_some_iff.mp e1).1
            omega
          have hw : ws[j]? = some ws[j] := List.getElem?_eq_getElem jl
          generalize ws[j] = wv at hw
          obtain ⟨d, hd, hx⟩ := DtAll.get hW hw
          rw [List.getElem?_map, e1] at hd
          have ed : d = triD x := (Option.some.inj hd).symm
          subst ed
          have il : i < ys.length := (List.getElem?_eq_some_iff.mp hi).1
          refine ⟨t, _, rfl, SqT.of (sm _ _ (S3 _ _ e3)), rfl, _, _, rfl, _, _, rfl, rfl, rfl, _, rfl, _, rfl, D, ws, (j : Int), wv, rfl, rfl, SqL.of (sm _ _ (S2 _ _ hD)), atI_nat hw, ?_⟩
          refine ⟨zs, hE, szM (by omega), same_put sm nE, zs ++ [wv], upd_same, by rw [List.length_append, zl]; rfl, ?_⟩
          rw [List.take_add_one, hi, List.map_append, List.map_append]
          refine DtAll.app hz ?_
          show DtAll H2 [wv] [triD (ps.getD (twoK H' (.ref t)).2.toNat (0, [], []))]
          rw [e4]
          have : ps.getD ((0 - x.1, (j : Int)) : Int × Int).2.toNat (0, [], []) = x := by
            show ps.getD (j : Int).toNat _ = x
            rw [Int.toNat_natCast, List.getD_eq_getElem?_getD, e1]
            rfl
          rw [this]
          exact .cons (Dt.keep (TK.of S2) hx) .nil
        · obtain ⟨sm, zs, hE, zl, hz⟩ := hP
          rw [List.take_length, om] at hz
          exact q _ _ zs (S2.trans sm) (S2.free nE) hE (DtAll.keep (TK.of sm) hz)
end
end Far

namespace Far
open PySem PySem.Spec PyProof.Rows PyProof.V L2
/-! ### max, min, sum of a tuple of whole numbers -/
section
variable {prog : Program} {w : World} {A : Around} {E : Value → Shared → Prop} {s : Shared} {t : Addr} {xs : Array (Int × Tok)}
theorem iter_intTup {Q : Value → Shared → Prop} (hl : s.heap.IsTuple t (intItems xs))
    (h : ∀ s₂ : Shared, s₂ = { s with heap := s.heap.push { cls := .type "tuple_iterator", data := .fields #[.ref t, .int 0 0] } } →
      (s₂.heap.IsTupleIter s.heap.objs.size t 0 ∧ s₂.heap.IsTuple t (intItems xs)) → (∀ b ∈ [s.heap.objs.size, t], b < s₂.heap.objs.size) → t ≠ s.heap.objs.size → Q (.ref s.heap.objs.size) s₂) : wpAny (model prog w) A (pyIter (.ref t)) Q E s := by
  have hlt : t < s.heap.objs.size := by obtain ⟨_, e, _⟩ := hl; exact Heap.lt_size e
  refine wpAny_pyIter_tuple hl (h _ rfl ⟨⟨_, Heap.get?_push_size _ rfl, rfl, rfl⟩, hl.at fun o e => Heap.get?_push_of_some _ e⟩ (fun b hb => ?_) (Nat.ne_of_lt hlt))
  show b < (s.heap.push _).objs.size
  rw [Heap.size_push]
  rcases List.mem_cons.mp hb with rfl | hb
  · exact Nat.lt_succ_self _
  · rcases List.mem_cons.mp hb with rfl | hb
    · exact Nat.lt_succ_of_lt hlt
    · cases hb
theorem old_keptT {s : Shared} {o : Obj} {h' : Heap} (k : ∀ b o', b ∉ [s.heap.objs.size] → (s.heap.push o).get? b = some o' → h'.get? b = some o') : ∀ b o', s.heap.get? b = some o' → h'.get? b = some o' :=
  fun b o' e => k b o' (fun hb => absurd (Heap.lt_size e) ((List.mem_singleton.mp hb) ▸ Nat.lt_irrefl _)) (Heap.get?_push_of_some _ e)
theorem max_intTup {Q : Value → Shared → Prop} (hh : A.handled = none) (hl : s.heap.IsTuple t (intItems xs)) (hne : 0 < xs.size)
    (h : ∀ v h' tk, (intItems xs)[argBest (fun i j => decide (numAt xs i > numAt xs j)) (xs.size - 1)]? = some v → (∀ b o, s.heap.get? b = some o → h'.get? b = some o) → Q v { s with heap := h', toks := tk }) :
    wpAny (model prog w) A (call (.builtin "max") [.ref t]) Q E s := by
  refine call_max_walk (iter_intTup hl fun s₂ e st hfp hlI => ?_)
  subst e
  refine ⟨_, _, _, _, _, _, _, rfl, Walks.tuple (A := A.in1) hh _ t hlI (intItems xs), st, hfp, by simpa [intItems] using hne, CmpOf.ints_gt (numAt xs) (fun _ _ => intItems_at), fun v h' tk hP hk => ?_⟩
  exact h v h' tk (by simpa [intItems] using hP) (old_keptT hk)
theorem min_intTup {Q : Value → Shared → Prop} (hh : A.handled = none) (hl : s.heap.IsTuple t (intItems xs)) (hne : 0 < xs.size)
    (h : ∀ v h' tk, (intItems xs)[argBest (fun i j => decide (numAt xs i < numAt xs j)) (xs.size - 1)]? = some v → (∀ b o, s.heap.get? b = some o → h'.get? b = some o) → Q v { s with heap := h', toks := tk }) :
    wpAny (model prog w) A (call (.builtin "min") [.ref t]) Q E s := by
  refine call_min_walk (iter_intTup hl fun s₂ e st hfp hlI => ?_)
  subst e
  refine ⟨_, _, _, _, _, _, _, rfl, Walks.tuple (A := A.in1) hh _ t hlI (intItems xs), st, hfp, by simpa [intItems] using hne, CmpOf.ints_lt (numAt xs) (fun _ _ => intItems_at), fun v h' tk hP hk => ?_⟩
  exact h v h' tk (by simpa [intItems] using hP) (old_keptT hk)
variable {its : List Value} {ns : List Int}
theorem maxT_raw {Q : Value → Shared → Prop} (hh : A.handled = none) (hl : s.heap.IsTuple t its.toArray) (hi : IntsAre its ns) (hne : 0 < ns.length)
    (h : ∀ h' tk M t', (∀ b o, s.heap.get? b = some o → h'.get? b = some o) → M ∈ ns → (∀ a, a ∈ ns → a ≤ M) → Q (.int M t') { s with heap := h', toks := tk }) : wpAny (model prog w) A (call (.builtin "max") [.ref t]) Q E s := by
  obtain ⟨xs, e⟩ := hi.allInts.items
  have hn : numsOf (intItems xs).toList = ns := by rw [← e]; exact hi.numsOf
  rw [nums_intItems] at hn
  subst hn
  rw [e] at hl
  have hsz : 0 < xs.size := by simpa using hne
  refine max_intTup hh hl hsz fun v h' tk hv hk => ?_
  obtain ⟨t, rfl⟩ := intItems_at hv
  obtain ⟨h1, h2⟩ := argBest_gt (numAt xs) (xs.size - 1)
  refine h h' tk _ t hk ?_ fun a ha => ?_
  · rw [numAt_eq]; exact PySem.getD_mem (by rw [List.length_map, Array.length_toList]; omega)
  · obtain ⟨j, hj, rfl⟩ := mem_getD ha
    rw [List.length_map, Array.length_toList] at hj
    rw [← numAt_eq]; exact h2 j (by omega)
theorem minT_raw {Q : Value → Shared → Prop} (hh : A.handled = none) (hl : s.heap.IsTuple t its.toArray) (hi : IntsAre its ns) (hne : 0 < ns.length)
    (h : ∀ h' tk M t', (∀ b o, s.heap.get? b = some o → h'.get? b = some o) → M ∈ ns → (∀ a, a ∈ ns → M ≤ a) → Q (.int M t') { s with heap := h', toks := tk }) : wpAny (model prog w) A (call (.builtin "min") [.ref t]) Q E s := by
  obtain ⟨xs, e⟩ := hi.allInts.items
  have hn : numsOf (intItems xs).toList = ns := by rw [← e]; exact hi.numsOf
  rw [nums_intItems] at hn
  subst hn
  rw [e] at hl
  have hsz : 0 < xs.size := by simpa using hne
  refine min_intTup hh hl hsz fun v h' tk hv hk => ?_
  obtain ⟨t, rfl⟩ := intItems_at hv
  obtain ⟨h1, h2⟩ := argBest_lt (numAt xs) (xs.size - 1)
  refine h h' tk _ t hk ?_ fun a ha => ?_
  · rw [numAt_eq]; exact PySem.getD_mem (by rw [List.length_map, Array.length_toList]; omega)
  · obtain ⟨j, hj, rfl⟩ := mem_getD ha
    rw [List.length_map, Array.length_toList] at hj
    rw [← numAt_eq]; exact h2 j (by omega)
theorem sumT_raw {Q : Value → Shared → Prop} (hh : A.handled = none) (hl : s.heap.IsTuple t its.toArray) (hi : IntsAre its ns)
    (h : ∀ h' tk t', (∀ b o, s.heap.get? b = some o → h'.get? b = some o) → Q (.int ns.sum t') { s with heap := h', toks := tk }) : wpAny (model prog w) A (call (.builtin "sum") [.ref t]) Q E s := by
  obtain ⟨xs, e⟩ := hi.allInts.items
  have hn : numsOf (intItems xs).toList = ns := by rw [← e]; exact hi.numsOf
  rw [nums_intItems] at hn
  rw [e] at hl
  refine PySem.W.ktm_sumG hh hl fun h' tk t' hk => ?_
  have := h h' tk t' hk
  rw [preSum_eq, List.take_of_length_le (by simp), hn]; exact this
end
section
variable {X : Cx}
def rMaxT (K : PySem.W.Frag) : List V → Hp → VK → Prop := fun vs H Q => ∃ (a : Addr) (ns : List Int), vs = [V.ref a] ∧ SqT K H a (ns.map V.int) ∧ 0 < ns.length ∧ ∀ m, m ∈ ns → (∀ y, y ∈ ns → y ≤ m) → Q (.int m) H
def rMinT (K : PySem.W.Frag) : List V → Hp → VK → Prop := fun vs H Q => ∃ (a : Addr) (ns : List Int), vs = [V.ref a] ∧ SqT K H a (ns.map V.int) ∧ 0 < ns.length ∧ ∀ m, m ∈ ns → (∀ y, y ∈ ns → m ≤ y) → Q (.int m) H
def rSumT (K : PySem.W.Frag) : List V → Hp → VK → Prop := fun vs H Q => ∃ (a : Addr) (ns : List Int), vs = [V.ref a] ∧ SqT K H a (ns.map V.int) ∧ Q (.int ns.sum) H
theorem cr_maxT {K : PySem.W.Frag} (hc : X.calm = true) (eK : X.K = K := by rfl) : CallR X (.builtin "max") (rMaxT K) := by
  subst eK
  intro pins s σ H vs us Q I r h
  obtain ⟨a, ns, rfl, hs, hne, q⟩ := h
  obtain ⟨its, rv, hl, _⟩ := I.tuple hs
  rw [Vals.ref1 r]
  exact maxT_raw (I.ok.hd hc) hl rv.ints hne fun h' tk m t' hk h1 h2 => ⟨.int _, H, I.kept hk, ⟨_, rfl⟩, q m h1 h2⟩
theorem cr_minT {K : PySem.W.Frag} (hc : X.calm = true) (eK : X.K = K := by rfl) : CallR X (.builtin "min") (rMinT K) := by
  subst eK
  intro pins s σ H vs us Q I r h
  obtain ⟨a, ns, rfl, hs, hne, q⟩ := h
  obtain ⟨its, rv, hl, _⟩ := I.tuple hs
  rw [Vals.ref1 r]
  exact minT_raw (I.ok.hd hc) hl rv.ints hne fun h' tk m t' hk h1 h2 => ⟨.int _, H, I.kept hk, ⟨_, rfl⟩, q m h1 h2⟩
theorem cr_sumT {K : PySem.W.Frag} (hc : X.calm = true) (eK : X.K = K := by rfl) : CallR X (.builtin "sum") (rSumT K) := by
  subst eK
  intro pins s σ H vs us Q I r h
  obtain ⟨a, ns, rfl, hs, q⟩ := h
  obtain ⟨its, rv, hl, _⟩ := I.tuple hs
  rw [Vals.ref1 r]
  exact sumT_raw (I.ok.hd hc) hl rv.ints fun h' tk t' hk => ⟨.int _, H, I.kept hk, ⟨_, rfl⟩, q⟩
theorem cr_maxL {K : PySem.W.Frag} (hc : X.calm = true) (eK : X.K = K := by rfl) : CallR X (.builtin "max") (rMax K) := by subst eK; exact cr_max hc
theorem cr_minL {K : PySem.W.Frag} (hc : X.calm = true) (eK : X.K = K := by rfl) : CallR X (.builtin "min") (rMin K) := by subst eK; exact cr_min hc
theorem cr_sumL {K : PySem.W.Frag} (hc : X.calm = true) (eK : X.K = K := by rfl) : CallR X (.builtin "sum") (rSum K) := by subst eK; exact cr_sum hc
end
end Far

namespace Far
open PySem PySem.Spec PyProof.Rows L2
open C8 (pss_cut tCut)
open SX (S)
def spLaw (K : PySem.W.Frag) : Sp := fun vs H Q _ => ∃ (a : Addr) (ns : List Int), vs = [.ref a] ∧ SqL K H a (ns.map V.int) ∧ ns.length ≤ 63 ∧ ∀ H', Q (.bl true) H'
theorem SqL.same {K : PySem.W.Frag} {H H' : Hp} {a : Addr} {xs : List V} (h : SqL K H a xs) (s : Same H H') : SqL K H' a xs := by
  rcases h with (h | ⟨o, h⟩) | h
  · exact .inl (.inl (s _ _ h))
  · exact .inl (.inr ⟨o, s _ _ h⟩)
  · exact .inr h
theorem fine_one : Fine [[97]] [] := ⟨⟨[[97]], [], .one _, .refl _, .refl _⟩, fun l hl => by rw [List.mem_singleton.mp hl]; exact ⟨by decide, by decide, by decide⟩, by decide⟩
theorem fine_ba {k : Int} (h1 : 1 ≤ k) (h2 : k ≤ 1000000) : Fine [[98], [97]] [([97], [98], k)] := by
  refine ⟨⟨[[97], [98]], [([97], [98], k)], ?_, .swap _ _ _, .refl _⟩, fun l hl => ?_, by decide⟩
  · exact Grown.leaf (os := [[97]]) (es := []) (a := [97]) (b := [98]) (k := k) (.one _) (by decide) (by decide) (.inl rfl) h1 h2
  · rcases List.mem_cons.mp hl with z | z
    · rw [z]
      exact ⟨by decide, by decide, by decide⟩
    · rw [List.mem_singleton.mp z]
      exact ⟨by decide, by decide, by decide⟩
theorem fine_ab {k : Int} (h1 : 1 ≤ k) (h2 : k ≤ 1000000) : Fine [[97], [98]] [([98], [97], k)] := by
  refine ⟨⟨[[97], [98]], [([98], [97], k)], ?_, .refl _, .refl _⟩, fun l hl => ?_, by decide⟩
  · exact Grown.leaf (os := [[97]]) (es := []) (a := [97]) (b := [98]) (k := k) (.one _) (by decide) (by decide) (.inr rfl) h1 h2
  · rcases List.mem_cons.mp hl with z | z
    · rw [z]
      exact ⟨by decide, by decide, by decide⟩
    · rw [List.mem_singleton.mp z]
      exact ⟨by decide, by decide, by decide⟩
theorem d_one : dist [] [97] [97] = 0 := (fine_one.tree.dist_self _).1
theorem d_ba {k : Int} (h1 : 1 ≤ k) (h2 : k ≤ 1000000) : dist [([97], [98], k)] [98] [97] = k ∧ dist [([97], [98], k)] [97] [98] = k ∧ dist [([97], [98], k)] [97] [97] = 0 ∧ dist [([97], [98], k)] [98] [98] = 0 := by
  have F := (fine_ba h1 h2).tree
  have w1 : Way [([97], [98], k)] ([98] : Nm) [97] ([[98]] ++ [[97]]) (0 + k) := .snoc .nil (.inr (by simp)) (by decide)
  have w2 : Way [([97], [98], k)] ([97] : Nm) [98] ([[97]] ++ [[98]]) (0 + k) := .snoc .nil (.inl (by simp)) (by decide)
  exact ⟨by rw [(F.is_way w1).2]; omega, by rw [(F.is_way w2).2]; omega, (F.dist_self _).1, (F.dist_self _).1⟩
theorem d_ab {k : Int} (h1 : 1 ≤ k) (h2 : k ≤ 1000000) : dist [([98], [97], k)] [98] [97] = k ∧ dist [([98], [97], k)] [97] [98] = k := by
  have F := (fine_ab h1 h2).tree
  have w1 : Way [([98], [97], k)] ([98] : Nm) [97] ([[98]] ++ [[97]]) (0 + k) := .snoc .nil (.inl (by simp)) (by decide)
  have w2 : Way [([98], [97], k)] ([97] : Nm) [98] ([[97]] ++ [[98]]) (0 + k) := .snoc .nil (.inr (by simp)) (by decide)
  exact ⟨by rw [(F.is_way w1).2]; omega, by rw [(F.is_way w2).2]; omega⟩
end Far

namespace Far
open PySem PySem.Spec PyProof.Rows L2 LamX
open C8 (pss_cut tCut)
open SX (S)
structure TxtM (mg : Str → Option Value) : Prop where
  len : mg "len" = none
  range : mg "range" = none
  list : mg "list" = none
  min : mg "min" = none
theorem SeedAt.same {H H' : Hp} {d : Addr} {n : Nat} (h : SeedAt H d n) (s : Same H H') : SeedAt H' d n := by
  obtain ⟨a, f, k, m, h1, h2⟩ := h
  exact ⟨a, f, k, m, s _ _ h1, h2⟩
theorem SeedAt.ofN {H H' : Hp} {d : Addr} {n : Nat} (h : SeedAt H d n) (s : ExtN H H') : SeedAt H' d n := by
  obtain ⟨a, f, k, m, h1, h2⟩ := h
  exact ⟨a, f, k, m, s _ _ h1 (fun ps z => by cases z), h2⟩
/-- all that stood stands as it was, but for the one object and tables -/
def SmY (d : Addr) (H H' : Hp) : Prop := ∀ b o, b ≠ d → (∀ ps, o ≠ .tbl ps) → H b = some o → H' b = some o
theorem SmY.ofX {d : Addr} {H H1 H2 : Hp} (a : SmY d H H1) (b : SmX d H1 H2) : SmY d H H2 := fun x o n t h => b x o n (a x o n t h)
theorem SmY.ofN {d : Addr} {H H1 H2 : Hp} (a : SmY d H H1) (b : ExtN H1 H2) : SmY d H H2 := fun x o n t h => b x o (a x o n t h) t
theorem SmY.trans {d : Addr} {H H1 H2 : Hp} (a : SmY d H H1) (b : SmY d H1 H2) : SmY d H H2 := fun x o n t h => b x o n t (a x o n t h)
theorem SmY.refl {d : Addr} (H : Hp) : SmY d H H := fun _ _ _ _ h => h
theorem tabs_smx {Pt d : Addr} {q : Str} {H H' : Hp} {xs : List V} (t : Tabs [(Pt, q)] H) (hd : H d = some (.lst xs)) (s : SmX d H H') : Tabs [(Pt, q)] H' := fun p hp => by
  obtain ⟨ps, h1, h2, h3⟩ := t p hp
  refine ⟨ps, s _ _ (ne_of h1 hd (fun z => by cases z)) h1, h2, fun pos cv hc => ?_⟩
  obtain ⟨c, e1, e2⟩ := h3 pos cv hc
  refine ⟨c, e1, s _ _ (ne_of e2 hd (fun z => ?_)) e2⟩
  unfold CodeO at z
  cases z
/-- where _law_right stands: the seed, the tables, the pairs in order, the tree -/
structure At8 (Pt d D2 : Addr) (H Hn : Hp) (v : V) (pl : List Nm) (ts : List Tie) (ws : List V) (m : Nat) : Prop where
  sm : SmY d H Hn
  sd : SeedAt Hn d m
  tb : Tabs [(Pt, qLam)] Hn
  du : Hn D2 = some (.lst ws)
  da : DtAll Hn ws ((byFar pl ts).map triD)
  tr : Dt Hn v (treeD pl ts)
section
variable {Pt d D2 : Addr} {H Hn H' : Hp} {v : V} {pl : List Nm} {ts : List Tie} {ws : List V} {m : Nat}
theorem At8.same (a : At8 Pt d D2 H Hn v pl ts ws m) (s : Same Hn H') : At8 Pt d D2 H H' v pl ts ws m :=
  ⟨fun x o n t h => s x o (a.sm x o n t h), a.sd.same s, Tabs.ext a.tb s, s _ _ a.du, DtAll.keep (TK.of s) a.da, Dt.keep (TK.of s) a.tr⟩
theorem At8.new {p : Addr} {o : HO} (a : At8 Pt d D2 H Hn v pl ts ws m) (np : Hn p = none) : At8 Pt d D2 H (upd Hn p o) v pl ts ws m := a.same (same_new (Same.refl Hn) np)
theorem At8.draw (a : At8 Pt d D2 H Hn v pl ts ws m) (dD : D2 ≠ d) (s : SmX d Hn H') (sd : SeedAt H' d (m + 1)) : At8 Pt d D2 H H' v pl ts ws (m + 1) := by
  obtain ⟨xs, hx⟩ := a.sd.lst
  exact ⟨a.sm.ofX s, sd, tabs_smx a.tb hx s, s _ _ dD a.du, DtAll.keep (s.tk hx) a.da, Dt.keep (s.tk hx) a.tr⟩
theorem At8.put {p : Addr} {o : HO} {xs : List V} (a : At8 Pt d D2 H Hn v pl ts ws m) (h : Hn p = some (.lst xs)) (n : ∀ o, H p = some o → ∃ ps, o = .tbl ps) (nd : p ≠ d) (nD : p ≠ D2) : At8 Pt d D2 H (upd Hn p o) v pl ts ws m := by
  refine ⟨fun x u nx t hh => by rw [upd_ne (fun e => by rw [e] at hh; obtain ⟨ps, z⟩ := n u hh; exact t ps z)]; exact a.sm x u nx t hh, a.sd.put nd, tabs_smx (d := p) a.tb h (fun b u nb hb => by rw [upd_ne nb]; exact hb), by rw [upd_ne nD.symm]; exact a.du, DtAll.keep (TK.mut h) a.da, Dt.keep (TK.mut h) a.tr⟩
theorem At8.nth (a : At8 Pt d D2 H Hn v pl ts ws m) (e : ExtN Hn H') (t : Tabs [(Pt, qLam)] H') : At8 Pt d D2 H H' v pl ts ws m :=
  ⟨a.sm.ofN e, a.sd.ofN e, t, e _ _ a.du (fun ps z => by cases z), DtAll.keep (TK.ofN e) a.da, Dt.keep (TK.ofN e) a.tr⟩
theorem At8.mono (a : At8 Pt d D2 H Hn v pl ts ws m) {k : Nat} (h : m ≤ k) : At8 Pt d D2 H Hn v pl ts ws k := ⟨a.sm, a.sd.mono h, a.tb, a.du, a.da, a.tr⟩
/-- an object that is neither the seed nor known to the first heap -/
theorem At8.free {p : Addr} (a : At8 Pt d D2 H Hn v pl ts ws m) (np : Hn p = none) : p ≠ d ∧ p ≠ D2 ∧ ∀ o, H p = some o → ∃ ps, o = .tbl ps := ⟨a.sd.nd np, (fun e => by rw [e, a.du] at np; cases np), fun o e => by
  by_cases t : ∃ ps, o = .tbl ps
  · exact t
  · have := a.sm p o (a.sd.nd np) (fun ps z => t ⟨ps, z⟩) e
    rw [np] at this
    cases this⟩
end
theorem nth_plain (pl : List Nm) (ts : List Tie) (n : Int) : Plain 3 (nthD pl ts n) := by
  have up : ∀ x : Tri, Plain 3 (triD x) := fun x => .tup (fun d hd => by
    simp only [List.mem_cons, List.not_mem_nil, or_false] at hd
    rcases hd with e | e | e <;> rw [e]
    · exact .int _ _
    · exact .str _ _
    · exact .str _ _) (by show 3 ≤ 1000; decide)
  unfold nthD
  split
  · split
    · exact up _
    · exact .non _
  · exact .non _
theorem nth_self {pl : List Nm} {ts : List Tie} (fine : Fine pl ts) (n : Int) : (nthD pl ts n).eqv (nthD pl ts n) = true ∧ SeqAt.shaped (nthD pl ts n) = true := by
  have h : ∀ x ∈ pairsOf pl ts, (triD x).eqv (triD x) = true ∧ SeqAt.shaped (triD x) = true := fun x hx => by
    obtain ⟨m1, m2, _⟩ := mem_pairs hx
    refine ⟨?_, ?_⟩
    · show ((_ == _) && ((_ == _) && ((_ == _) && true))) = true
      simp
    · show ((true && (PyData.strOk (S x.2.1) && (PyData.strOk (S x.2.2) && true))) && true) = true
      rw [strOk_S (fine.2 _ m1), strOk_S (fine.2 _ m2)]
      rfl
  unfold nthD
  split
  · cases e : (byFar pl ts)[n.toNat]? with
    | none => exact ⟨rfl, by rfl⟩
    | some x => exact h x (List.mem_mergeSort.mp (List.mem_of_getElem? e))
  · exact ⟨rfl, by rfl⟩
theorem at_int {ls : List Int} {i : Nat} {v : V} (hi : (ls.map V.int)[i]? = some v) : ∃ n, ls[i]? = some n ∧ v = .int n ∧ ls.take (i + 1) = ls.take i ++ [n] := by
  rw [List.getElem?_map] at hi
  cases el : ls[i]? with
  | none => rw [el] at hi; cases hi
  | some x => rw [el] at hi; exact ⟨x, rfl, (Option.some.inj hi).symm, by rw [List.take_add_one, el]; rfl⟩
theorem filt_snoc {ls : List Int} {p : Int → Bool} {i : Nat} {x : Int} (h : ls.take (i + 1) = ls.take i ++ [x]) : (ls.take (i + 1)).filter p = (ls.take i).filter p ++ (if p x = true then [x] else []) := by
  rw [h, List.filter_append]
  by_cases c : p x = true
  · rw [if_pos c, List.filter_cons, if_pos c]
    rfl
  · rw [if_neg c, List.filter_cons, if_neg c]
    rfl
abbrev s_law_right : Stmt := topS 22
abbrev N_law_right : List Str := ["seed", "tree", "due", "many", "some", "place", "pair", "one", "turn"]
theorem sc_law_right : FnScope N_law_right ["seed", "tree"] (defScope s_law_right) := ⟨rfl, rfl, rfl, by decide +kernel, rfl, by decide +kernel, by decide +kernel⟩
section
variable {P : Program} {w : World} {K : PySem.W.Frag} {mg : Str → Option Value} {base : Heap}
def spRight (Pt : Addr) : Sp := fun vs H Q _ => ∃ (d : Addr) (n : Nat) (v : V) (pl : List Nm) (ts : List Tie), vs = [.ref d, v] ∧ SeedAt H d n ∧ n < 90000 ∧ Dt H v (treeD pl ts) ∧ Fine pl ts ∧ pl.length ≤ 30 ∧ Tabs [(Pt, qLam)] H ∧ ∀ H' : Hp, SmY d H H' → SeedAt H' d (n + 100) → Tabs [(Pt, qLam)] H' → Q (.bl true) H'
theorem ok_right {f Pt : Addr} {fd : FuncData} (F : Fun K "_law_right" "_law_right" s_law_right f fd) (T : TxtM mg) (C_law_draw : Cal P w K mg base 1 "_law_draw" spDraw) (C_law_pairs : Cal P w K mg base 3 "_law_pairs" spPairs) (C_law_in_order : Cal P w K mg base 1 "_law_in_order" spInOrder) (C_law_same : Cal P w K mg base 4 "_law_same" (spSame 3))
    (Cnth_farthest : Cal P w K mg base 5 "nth_farthest" (spNth Pt)) : FnOk P w K mg base CX0 6 f fd ["seed", "tree"] (spRight Pt) := by
  refine F.ok sc_law_right (fun vs H Q E h => ?_) (fun cdv A outer s H vs Q E hr h => ?_)
  · obtain ⟨d, n, v, pl, ts, rfl, _⟩ := h
    rfl
  · obtain ⟨d, n, v, pl, ts, rfl, D0, n9, hd, fine, p30, hT, q⟩ := h
    have ll : (pairsOf pl ts).length ≤ 1000000 := Nat.le_trans (prs_len pl ts _) (Nat.mul_le_mul fine.len fine.len)
    refine ⟨_, (pss_cons (ps_set (i := 2) sc_law_right.nd rfl (.inl rfl) (pe_c C_law_in_order hr (by decide) rfl (pa_cons (pe_c C_law_pairs hr (by decide) rfl (pa_cons (pv 1) pa_nil)) pa_nil)))
      (pss_cons (ps_set (i := 3) sc_law_right.nd rfl (.inr rfl) (pe_callB call_len_seq (by rfl) T.len bt_len (pa_cons (pv 2) pa_nil)))
      (pss_cons (ps_set (i := 4) sc_law_right.nd rfl (.inl rfl) (pe_lst (pa_cons pe_int (pa_cons (pe_op op_sub (pv 3) pe_int) (pa_cons (pv 3) (pa_cons (pe_op op_add (pe_op op_add (pv 3) pe_int) (pe_c C_law_draw hr (by decide) rfl (pa_cons (pv 0) (pa_cons pe_int pa_nil)))) (pa_cons (pe_op op_pow pe_int pe_int) (pa_cons (pe_op op_sub (pe_op op_pow pe_int pe_int) (pe_c C_law_draw hr (by decide) rfl (pa_cons (pv 0) (pa_cons pe_int pa_nil)))) pa_nil))))))))
      (pss_cons (ps_set (i := 4) sc_law_right.nd rfl (.inl rfl) (pe_op op_cat (pe_op op_cat (pv 4) (pe_lc (own := [("turn", 8)]) (g := gName 8) (tt := tYes) rfl sc_law_right.nd (pi_range1 (by rfl) T.range (pa_cons pe_int pa_nil)) (blkOk_by (N := N_law_right) (sc := defScope s_law_right) (by decide +kernel)) (fun _ _ _ _ _ => pg_name (i := 8) sc_law_right.nd rfl (Or.inl rfl)) (fun _ _ _ _ _ => pts_nil) (fun _ _ _ _ _ => (pe_c C_law_draw hr (by decide) rfl (pa_cons (pv 0) (pa_cons (pe_op op_add (pv 3) pe_int) pa_nil)))))) (pe_listRg rfl (by rfl) T.list (prg_1 (by rfl) T.range (pe_callB (call_min2 rfl) (by rfl) T.min bt_min (pa_cons (pv 3) (pa_cons pe_int pa_nil)))))))
      (pss_cut (ps_for PassesOwn.never rfl (pi_list (pe_lc (own := [("one", 7)]) (g := gName 7)  rfl sc_law_right.nd (pi_list (pv 4)) (blkOk_by (N := N_law_right) (sc := defScope s_law_right) (by decide +kernel)) (fun _ _ _ _ _ => pg_name (i := 7) sc_law_right.nd rfl (Or.inl rfl)) (fun _ _ _ _ _ => pts_one (pt_cmpR op_ge (pv 7) pe_int (nomark _))) (fun _ _ _ _ _ => (pv 7)))) (pg_name (i := 5) sc_law_right.nd rfl (.inl rfl))
        (pss_cons (ps_set (i := 6) sc_law_right.nd rfl (.inl rfl) pe_non)
        (pss_cut (ps_if (pt_cmpR op_lt (pv 5) (pv 3) (nomark _))
          (pss_one (ps_set (i := 6) sc_law_right.nd rfl (.inl rfl) (pe_ix ix_list (pv 2) (pv 5) (fun _ _ => rfl))))
          pss_nil)
        (pss_cut (ps_if (pt_not (pt_val (pe_c C_law_same hr (by decide) rfl (pa_cons (pe_c Cnth_farthest hr (by decide) rfl (pa_cons (pv 1) (pa_cons (pv 5) pa_nil))) (pa_cons (pv 6) pa_nil)))))
          (pss_one (ps_ret pe_bl))
          pss_nil)
        (pss_one (ps_if (PW.pt (pw_and (pt_cmpR op_lt (pv 5) pe_int (nomark _)) (pw_and1 (pt_cmpR (op_neD (hd_of hr (by decide))) (pe_c Cnth_farthest hr (by decide) rfl (pa_cons (pv 1) (pa_cons (pv 5) pa_nil))) (pv 6) (nomark _)))))
          (pss_one (ps_ret pe_bl))
          pss_nil))))))
      (pss_one (ps_ret pe_bl))))))), ?_⟩
    refine ⟨_, rfl, v, pl, ts, rfl, hd, fine, by omega, fun H1 D ws S1 nD hD hW => ?_⟩
    refine ⟨D, ws, pairsOf pl ts, rfl, hD, hW, ll, fun H2 D2 ws2 S2 nD2 hD2 hW2 => ?_⟩
    have wl := DtAll.len hW2
    rw [List.length_map, List.length_mergeSort] at wl
    have A2 : At8 Pt d D2 H H2 v pl ts ws2 n := ⟨fun x o _ _ h => S2 _ _ (S1 _ _ h), (D0.same S1).same S2, Tabs.ext (Tabs.ext hT S1) S2, hD2, hW2, Dt.keep (TK.of (S1.trans S2)) hd⟩
    refine ⟨_, rfl, D2, _, rfl, .inl (SqL.of hD2), ?_⟩
    have dD : D2 ≠ d := (D0.same S1).nd nD2
    have D20 : H D2 = none := S1.free nD2
    clear hD2 hW2 hW hD D0 hd nD S2 nD2 hT S1
    -- some
    refine ⟨_, rfl, _, _, rfl, rfl, _, rfl, _, rfl, _, _, rfl, rfl, _, rfl, d, n, 60, rfl, A2.sd, by omega, by decide, by decide, fun H3 r1 r1a r1b S3 D3 => ?_⟩
    have A3 := A2.draw dD S3 D3
    refine ⟨_, _, rfl, rfl, _, _, rfl, rfl, ⟨by decide, by decide, by decide⟩, _, _, rfl, rfl, ⟨by decide, by decide, by decide⟩, _, rfl, d, n + 1, 1000, rfl, A3.sd, by omega, by decide, by decide, fun H4 r2 r2a r2b S4 D4 => ?_⟩
    have A4 := A3.draw dD S4 D4
    refine ⟨_, _, rfl, rfl, (by show 6 ≤ sizeLine; decide), fun p np => ?_⟩
    obtain ⟨xs, hp5, xl⟩ : ∃ xs : List Int, (upd H4 p (.lst [V.int 0, V.int ((ws2.length : Int) - 1), V.int (ws2.length : Int), V.int ((ws2.length : Int) + 1 + r1), V.int (10 ^ (6 : Int).toNat), V.int (10 ^ (6 : Int).toNat - r2)])) p = some (.lst (xs.map V.int)) ∧ xs.length ≤ 6 :=
      ⟨[0, (ws2.length : Int) - 1, ws2.length, (ws2.length : Int) + 1 + r1, 10 ^ (6 : Int).toNat, 10 ^ (6 : Int).toNat - r2], upd_same, Nat.le_refl 6⟩
    have A5 := A4.new (o := .lst [V.int 0, V.int ((ws2.length : Int) - 1), V.int (ws2.length : Int), V.int ((ws2.length : Int) + 1 + r1), V.int (10 ^ (6 : Int).toNat), V.int (10 ^ (6 : Int).toNat - r2)]) np
    obtain ⟨pd, pD, _⟩ := A4.free np
    generalize upd H4 p (.lst [V.int 0, V.int ((ws2.length : Int) - 1), V.int (ws2.length : Int), V.int ((ws2.length : Int) + 1 + r1), V.int (10 ^ (6 : Int).toNat), V.int (10 ^ (6 : Int).toNat - r2)]) = H5 at hp5 A5
    clear np A4 D4 S4 A3 D3 S3 A2
    refine ⟨_, rfl, 4, rfl, by decide, by decide, fun C nC => ?_⟩
    obtain ⟨Cd, CD, C0⟩ := A5.free nC
    refine lc_range (lo := 0) (n := (4 : Int).toNat) (fun i H' => ∃ zs : List Int, zs.length = i ∧ H' C = some (.lst (zs.map V.int)) ∧ H' p = some (.lst (xs.map V.int)) ∧ At8 Pt d D2 H H' v pl ts ws2 (n + 2 + i)) ⟨[], rfl, upd_same, by rw [upd_ne (ne_of_none hp5 nC)]; exact hp5, A5.new nC⟩ (fun i H' hi hP => ?_) (fun H' hP => ?_)
    · obtain ⟨zs, zl, hC, hp, A6⟩ := hP
      have hi : i < 4 := hi
      refine ⟨rfl, _, rfl, _, rfl, _, _, rfl, rfl, d, n + 2 + i, _, rfl, A6.sd, by omega, by omega, by omega, fun H7 r ra rb S7 D7 => ?_⟩
      have A7 := A6.draw dD S7 D7
      have hC7 := S7 _ _ Cd hC
      refine ⟨_, hC7, by rw [List.length_map]; exact szM (by omega), zs ++ [r], by simp [zl], by rw [upd_same, List.map_append]; rfl, ?_, ?_⟩
      · have hp7 := S7 _ _ pd hp
        rw [upd_ne (ne_of_none hp5 nC)]
        exact hp7
      · exact (A7.put hC7 C0 Cd CD).mono (by omega)
    · obtain ⟨zs, zl, hC, hp, A6⟩ := hP
      have zl : zs.length = 4 := zl
      refine ⟨p, C, _, _, rfl, rfl, hp, hC, by rw [List.length_map, List.length_map]; exact Nat.le_of_lt (szM (by omega)), fun L nL => ?_⟩
      have hL : (upd H' L (.lst (xs.map V.int ++ zs.map V.int))) L = some (.lst ((xs ++ zs).map V.int)) := by rw [upd_same, List.map_append]
      have A7 := A6.new (o := .lst (xs.map V.int ++ zs.map V.int)) nL
      generalize upd H' L (.lst (xs.map V.int ++ zs.map V.int)) = H7 at hL A7
      have yl : (xs ++ zs).length ≤ 10 := by rw [List.length_append]; omega
      generalize xs ++ zs = ys at hL yl
      have mn : (if (4 : Int) < (ws2.length : Int) then (4 : Int) else (ws2.length : Int)) ≤ 4 ∧ 0 ≤ (if (4 : Int) < (ws2.length : Int) then (4 : Int) else (ws2.length : Int)) := by
        split <;> constructor <;> omega
      refine ⟨_, rfl, _, _, rfl, _, rfl, RgOk.of_le (by decide) (by omega) (by decide) mn.2, fun o no => ?_⟩
      obtain ⟨rs, ers, rl⟩ : ∃ rs : List Int, rgV 0 (if (4 : Int) < (ws2.length : Int) then (4 : Int) else (ws2.length : Int)) = rs.map V.int ∧ rs.length ≤ 4 := by
        refine ⟨(List.range ((if (4 : Int) < (ws2.length : Int) then (4 : Int) else (ws2.length : Int)) - 0).toNat).map fun i : Nat => 0 + (i : Int), ?_, ?_⟩
        · unfold rgV
          rw [List.map_map]
          rfl
        · rw [List.length_map, List.length_range]
          omega
      rw [ers]
      have Lo : L ≠ o := ne_of_none hL no
      refine ⟨L, o, _, _, rfl, rfl, by rw [upd_ne Lo]; exact hL, upd_same, by rw [List.length_map, List.length_map]; exact Nat.le_of_lt (szM (by omega)), fun M nM => ?_⟩
      have A8 := (A7.new (o := .lst (rs.map V.int)) no).new (o := .lst (ys.map V.int ++ rs.map V.int)) nM
      have hM : (upd (upd H7 o (.lst (rs.map V.int))) M (.lst (ys.map V.int ++ rs.map V.int))) M = some (.lst ((ys ++ rs).map V.int)) := by rw [upd_same, List.map_append]
      generalize upd (upd H7 o (.lst (rs.map V.int))) M (.lst (ys.map V.int ++ rs.map V.int)) = H8 at A8 hM
      have sl : (ys ++ rs).length ≤ 14 := by rw [List.length_append]; omega
      generalize ys ++ rs = ss at hM sl
      clear nM no Lo ers rl mn yl A7 hL nL A6 hp hC A5 hp5 nC
      refine ⟨fun σ' H' => At8 Pt d D2 H H' v pl ts ws2 (n + 6), ?_, fun σ' H' hP => q _ hP.sm (hP.sd.mono (by omega)) hP.tb⟩
      refine ⟨_, rfl, M, rfl, ⟨_, SqL.of hM⟩, fun B nB => ?_⟩
      refine lc_list (K := K) (a := M) (xs := ss.map V.int) (fun i H9 => Same H8 H9 ∧ H9 B = some (.lst (((ss.take i).filter fun z => decide (z ≥ 0)).map V.int))) ⟨same_new (Same.refl H8) nB, upd_same⟩ (fun i H9 _ hP => SqL.of (hP.1 _ _ hM)) (fun i u H9 hi hP => ?_) (fun H9 hP => ?_)
      · obtain ⟨sm2, hB⟩ := hP
        obtain ⟨m, em, rfl, et⟩ := at_int hi
        have et := filt_snoc (p := fun z => decide (z ≥ 0)) et
        refine ⟨rfl, _, rfl, _, _, rfl, rfl, _, rfl, ?_⟩
        refine ite2 (fun z => ?_) (fun z => ?_)
        · rw [if_pos z] at et
          refine ⟨_, rfl, _, hB, ?_, same_put sm2 nB, ?_⟩
          · rw [List.length_map]
            have := List.length_filter_le (fun z => decide (z ≥ 0)) (ss.take i)
            rw [List.length_take] at this
            exact szM (by omega)
          · rw [upd_same, et, List.map_append]
            rfl
        · rw [if_neg z, List.append_nil] at et
          exact ⟨sm2, by rw [et]; exact hB⟩
      · obtain ⟨sm2, hB⟩ := hP
        rw [List.length_map, List.take_length] at hB
        have hg : ∀ m ∈ ss.filter (fun z => decide (z ≥ 0)), 0 ≤ m := fun m hm => of_decide_eq_true (List.mem_filter.mp hm).2
        generalize ss.filter (fun z => decide (z ≥ 0)) = gs at hB hg
        have A9 := A8.same sm2
        refine ⟨B, rfl, ⟨_, SqL.of hB⟩, for_list (K := K) (a := B) (xs := gs.map V.int) (fun i σ3 H3 => (∃ x5 x6, σ3 = [some (.ref d), some v, some (.ref D2), some (.int (ws2.length : Int)), some (.ref M), x5, x6, none, none]) ∧ At8 Pt d D2 H H3 v pl ts ws2 (n + 6) ∧ H3 B = some (.lst (gs.map V.int))) ⟨⟨_, _, rfl⟩, A9, hB⟩ (fun i σ3 H3 _ hP => SqL.of hP.2.2) (fun i u σ3 H3 hi hP => ?_) (fun σ3 H3 hP => hP.2.1)⟩
        obtain ⟨⟨x5, x6, rfl⟩, A3, hB3⟩ := hP
        obtain ⟨m, em, rfl, et⟩ := at_int hi
        have m0 := hg m (List.mem_of_getElem? em)
        refine ⟨fun σ5 H5 => (∃ u, σ5 = [some (.ref d), some v, some (.ref D2), some (.int (ws2.length : Int)), some (.ref M), some (.int m), some u, none, none] ∧ Dt H3 u (nthD pl ts m)) ∧ H5 = H3, ?_, fun σ5 H5 hM5 => ?_⟩
        · refine ⟨_, rfl, _, rfl, _, _, rfl, rfl, _, rfl, ?_⟩
          have bl : (byFar pl ts).length = ws2.length := by rw [byFar_len, wl]
          refine ite2 (fun z => ?_) (fun z => ?_)
          · have z : m < (ws2.length : Int) := of_decide_eq_true z
            have lt : m.toNat < ws2.length := by omega
            have hn : ws2[m.toNat]? = some ws2[m.toNat] := List.getElem?_eq_getElem lt
            generalize ws2[m.toNat] = v1 at hn
            have hv1 : atI ws2 m = some v1 := by
              have e : m = ((m.toNat : Nat) : Int) := by omega
              rw [e]
              exact atI_nat (by simpa using hn)
            refine ⟨_, rfl, _, rfl, D2, ws2, m, v1, rfl, rfl, SqL.of A3.du, hv1, ⟨v1, rfl, ?_⟩, rfl⟩
            obtain ⟨dd, h1, h2⟩ := DtAll.get A3.da hn
            rw [List.getElem?_map] at h1
            unfold nthD
            rw [if_pos m0]
            cases eb : (byFar pl ts)[m.toNat]? with
            | none => rw [eb] at h1; cases h1
            | some x =>
              rw [eb] at h1
              cases h1
              exact h2
          · have z : ¬ m < (ws2.length : Int) := of_decide_eq_false (by simpa using z)
            refine ⟨⟨_, rfl, ?_⟩, rfl⟩
            unfold nthD
            rw [if_pos m0, show (byFar pl ts)[m.toNat]? = none from List.getElem?_eq_none (by omega)]
            exact .non
        · obtain ⟨⟨u, rfl, hu⟩, rfl⟩ := hM5
          refine ⟨fun σ6 H6 => (σ6 = [some (.ref d), some v, some (.ref D2), some (.int (ws2.length : Int)), some (.ref M), some (.int m), some u, none, none]) ∧ At8 Pt d D2 H H6 v pl ts ws2 (n + 6) ∧ H6 B = some (.lst (gs.map V.int)) ∧ Dt H6 u (nthD pl ts m), ?_, fun σ6 H6 hM6 => ?_⟩
          · refine ⟨_, rfl, _, rfl, v, pl, ts, m, rfl, A3.tr, fine, A3.tb, fun H6 r e6 t6 h6 => ?_⟩
            have u6 := Dt.keep (TK.ofN e6) hu
            refine ⟨_, rfl, r, u, nthD pl ts m, rfl, h6, u6, nth_plain _ _ _, fun H7 S7 => ⟨_, rfl, iteF ⟨rfl, (A3.nth e6 t6).same S7, S7 _ _ (e6 _ _ hB3 (fun ps z => by cases z)), Dt.keep (TK.of S7) u6⟩⟩⟩
          · obtain ⟨rfl, A6, hB6, u6⟩ := hM6
            refine ⟨_, rfl, _, _, rfl, rfl, _, rfl, ?_⟩
            refine ite2 (fun z => ?_) (fun z => ?_)
            · refine ⟨_, rfl, _, rfl, v, pl, ts, m, rfl, A6.tr, fine, A6.tb, fun H7 r e7 t7 h7 => ?_⟩
              obtain ⟨ns1, ns2⟩ := nth_self fine m
              refine ⟨_, rfl, _, _, Dt.dp h7, Dt.dp (Dt.keep (TK.ofN e7) u6), ns2, ns2, ?_⟩
              rw [ns1]
              exact ⟨_, rfl, iteF ⟨⟨_, _, rfl⟩, A6.nth e7 t7, e7 _ _ hB6 (fun ps z => by cases z)⟩⟩
            · exact ⟨⟨_, _, rfl⟩, A6, hB6⟩
end
end Far

namespace Far
open PySem PySem.Spec PyProof.Rows L2 LamX
open C8 (pss_cut tCut)
open SX (S)
abbrev s_law : Stmt := topS 23
abbrev N_law : List Str := ["script", "cell", "seed", "turn"]
theorem sc_law : FnScope N_law ["script"] (defScope s_law) := ⟨rfl, rfl, rfl, by decide +kernel, rfl, by decide +kernel, by decide +kernel⟩
theorem nth_one : nthD [[97]] [] 0 = .none := by
  have e : pairsOf [[97]] [] = [] := by
    unfold pairsOf
    rfl
  unfold nthD byFar
  rw [e, List.mergeSort_nil]
  rfl
theorem fine_two : Fine [[97], [98]] [([98], [97], 7)] := by
  refine ⟨⟨[[97], [98]], [([98], [97], 7)], ?_, .refl _, .refl _⟩, fun l hl => ?_, by decide⟩
  · exact Grown.leaf (os := [[97]]) (es := []) (a := [97]) (b := [98]) (k := 7) (.one _) (by decide) (by decide) (.inr rfl) (by decide) (by decide)
  · rcases List.mem_cons.mp hl with z | z
    · rw [z]
      exact ⟨by decide, by decide, by decide⟩
    · rw [List.mem_singleton.mp z]
      exact ⟨by decide, by decide, by decide⟩
theorem nth_two : nthD [[97], [98]] [([98], [97], 7)] 0 = triD (7, [97], [98]) := by
  have F := fine_two.tree
  have w1 : Way [([98], [97], 7)] ([97] : Nm) [98] ([[97]] ++ [[98]]) (0 + 7) := .snoc .nil (.inr (by simp)) (by decide)
  have e1 : dist [([98], [97], 7)] [97] [98] = 7 := by rw [(F.is_way w1).2]; rfl
  have e : pairsOf [[97], [98]] [([98], [97], 7)] = [(dist [([98], [97], 7)] [97] [98], [97], [98])] := by
    unfold pairsOf
    rfl
  unfold nthD byFar
  rw [e, e1, List.mergeSort_singleton]
  rfl
section
variable {P : Program} {w : World} {K : PySem.W.Frag} {mg : Str → Option Value} {base : Heap}
def spLawT (K : PySem.W.Frag) (Pt : Addr) : Sp := fun vs H Q _ => ∃ (a : Addr) (ns : List Int), vs = [.ref a] ∧ SqL K H a (ns.map V.int) ∧ ns.length ≤ 63 ∧ Tabs [(Pt, qLam)] H ∧ ∀ H', Q (.bl true) H'
theorem ok_law {f Pt : Addr} {fd : FuncData} (F : Fun K "law" "law" s_law f fd) (T : TxtG mg) (C_law_folded : Cal P w K mg base 1 "_law_folded" (spFolded K)) (C_law_seed : Cal P w K mg base 1 "_law_seed" spSeed) (C_law_tree : Cal P w K mg base 3 "_law_tree" spTree)
    (C_law_right : Cal P w K mg base 6 "_law_right" (spRight Pt)) (Cnth_farthest : Cal P w K mg base 5 "nth_farthest" (spNth Pt)) : FnOk P w K mg base CX0 7 f fd ["script"] (spLawT K Pt) := by
  refine F.ok sc_law (fun vs H Q E h => ?_) (fun cdv A outer s H vs Q E hr h => ?_)
  · obtain ⟨a, ns, rfl, _⟩ := h
    rfl
  · obtain ⟨a, ns, rfl, hS, hl, hT, q⟩ := h
    refine ⟨_, (pss_cut (ps_for PassesOwn.never rfl (pi_list (pe_op op_cat (pe_slice sl_list (pv 0) po_none (po_some pe_int)) (pe_lst (pa_cons (pe_c C_law_folded hr (by decide) rfl (pa_cons (pv 0) pa_nil)) pa_nil)))) (pg_name (i := 1) sc_law.nd rfl (.inl rfl))
        (pss_cons (ps_set (i := 2) sc_law.nd rfl (.inl rfl) (pe_c C_law_seed hr (by decide) rfl (pa_cons (pv 1) pa_nil)))
        (pss_one (ps_for PassesOwn.never rfl (pi_range1 (by rfl) T.range (pa_cons pe_int pa_nil)) (pg_name (i := 3) sc_law.nd rfl (.inl rfl))
          (pss_one (ps_if (pt_not (pt_val (pe_c C_law_right hr (by decide) rfl (pa_cons (pv 2) (pa_cons (pe_c C_law_tree hr (by decide) rfl (pa_cons (pv 2) (pa_cons (pe_ix ix_list (pe_lst (pa_cons pe_int (pa_cons pe_int pa_nil))) (pv 3) (fun _ _ => rfl)) pa_nil))) pa_nil)))))
            (pss_one (ps_ret pe_bl))
            pss_nil))))))
      (pss_one (ps_ret (pe_and (pe_cmpR op_isN (pe_c Cnth_farthest hr (by decide) rfl (pa_cons (pe_tup (pa_cons (pe_tup (pa_cons pe_str pa_nil)) (pa_cons (pe_tup pa_nil) pa_nil))) (pa_cons pe_int pa_nil))) pe_non (nomark _)) (pe_one (pe_cmpR (op_eqD (hd_of hr (by decide))) (pe_c Cnth_farthest hr (by decide) rfl (pa_cons (pe_tup (pa_cons (pe_tup (pa_cons pe_str (pa_cons pe_str pa_nil))) (pa_cons (pe_tup (pa_cons (pe_tup (pa_cons pe_str (pa_cons pe_str (pa_cons pe_int pa_nil)))) pa_nil)) pa_nil))) (pa_cons pe_int pa_nil))) (pe_tup (pa_cons pe_int (pa_cons pe_str (pa_cons pe_str pa_nil)))) (nomark _))))))), ?_⟩
    refine ⟨fun σ' H' => Tabs [(Pt, qLam)] H', ?_, fun σ' H' hT => ?_⟩
    · refine ⟨_, rfl, 2, rfl, a, _, rfl, hS, fun p1 np1 => ?_⟩
      refine ⟨_, rfl, a, ns, rfl, SqL.same hS (same_new (Same.refl H) np1), hl, fun r r0 => ?_⟩
      refine ⟨(by show 1 ≤ sizeLine; decide), fun p2 np2 => ?_⟩
      have n12 : p1 ≠ p2 := ne_of_none upd_same np2
      have cl := cutV_length (ns.map V.int) none (some 2)
      rw [List.length_map] at cl
      refine ⟨p1, p2, _, _, rfl, rfl, by rw [upd_ne n12]; exact upd_same, upd_same, by rw [List.length_singleton]; exact sz_le (by omega), fun p3 np3 => ?_⟩
      have hcs : ∀ v ∈ cutV (ns.map V.int) none (some 2) ++ [V.int r], ∃ c : Int, v = .int c := fun v hv => by
        rcases List.mem_append.mp hv with z | z
        · obtain ⟨c, _, e⟩ := List.mem_map.mp (List.mem_of_mem_drop (List.mem_of_mem_take z))
          exact ⟨c, e.symm⟩
        · exact ⟨r, List.mem_singleton.mp z⟩
      have hT3 : Tabs [(Pt, qLam)] (upd (upd (upd H p1 (.lst (cutV (ns.map V.int) none (some 2)))) p2 (.lst [.int r])) p3 (.lst (cutV (ns.map V.int) none (some 2) ++ [.int r]))) := Tabs.ext hT (same_new (same_new (same_new (Same.refl H) np1) np2) np3)
      have h3 : (upd (upd (upd H p1 (.lst (cutV (ns.map V.int) none (some 2)))) p2 (.lst [.int r])) p3 (.lst (cutV (ns.map V.int) none (some 2) ++ [.int r]))) p3 = some (.lst (cutV (ns.map V.int) none (some 2) ++ [.int r])) := upd_same
      generalize upd (upd (upd H p1 (.lst (cutV (ns.map V.int) none (some 2)))) p2 (.lst [.int r])) p3 (.lst (cutV (ns.map V.int) none (some 2) ++ [.int r])) = H3 at h3 hT3
      generalize cutV (ns.map V.int) none (some 2) ++ [V.int r] = cs at hcs h3
      refine ⟨p3, rfl, ⟨_, SqL.of h3⟩, for_list (K := K) (a := p3) (xs := cs) (fun i σ' H' => (∃ x1 x2 x3, σ' = [some (.ref a), x1, x2, x3]) ∧ ExtN H3 H' ∧ Tabs [(Pt, qLam)] H') ⟨⟨_, _, _, rfl⟩, ExtN.refl _, hT3⟩ (fun i σ' H' _ hP => SqL.of (hP.2.1 _ _ h3 (fun ps z => by cases z))) (fun i v σ' H' hi hP => ?_) (fun σ' H' hP => hP.2.2)⟩
      obtain ⟨⟨x1, x2, x3, rfl⟩, SM, TM⟩ := hP
      obtain ⟨c, rfl⟩ := hcs v (List.mem_of_getElem? hi)
      refine ⟨_, rfl, c, rfl, fun H5 d S5 d0 D5 => ?_⟩
      refine ⟨2, rfl, by decide, by decide, for_range (lo := 0) (n := (2 : Int).toNat) (fun j σ' H'' => (∃ x3, σ' = [some (.ref a), some (.int c), some (.ref d), x3]) ∧ SmY d H5 H'' ∧ SeedAt H'' d (1100 * j) ∧ Tabs [(Pt, qLam)] H'') ⟨⟨_, rfl⟩, SmY.refl _, D5, Tabs.ext TM S5⟩ (fun j σ' H'' hj hP => ?_) (fun σ' H'' hP => ?_)⟩
      · obtain ⟨⟨x3, rfl⟩, S6, D6, T6⟩ := hP
        refine ⟨_, rfl, _, rfl, (by show 2 ≤ sizeLine; decide), fun p np => ?_⟩
        obtain ⟨v, hv, mv⟩ := atI_in (xs := [V.int 30, .int 8]) (i := 0 + (j : Int)) (by omega) (by simpa using (by omega : (0 : Int) + (j : Int) < 2))
        obtain ⟨most, rfl, m1, m30⟩ : ∃ m : Nat, v = .int m ∧ 1 ≤ m ∧ m ≤ 30 := by
          simp only [List.mem_cons, List.not_mem_nil, or_false] at mv
          rcases mv with e | e
          · exact ⟨30, e, by omega, by omega⟩
          · exact ⟨8, e, by omega, by omega⟩
        refine ⟨_, rfl, p, _, 0 + (j : Int), _, rfl, rfl, SqL.of upd_same, hv, ?_⟩
        refine ⟨d, _, most, rfl, D6.new np, by omega, m1, m30, fun H7 t pl ts it ok pll hDt S7 D7 => ?_⟩
        have fine : Fine pl ts := ⟨it, ok, by omega⟩
        have T7 : Tabs [(Pt, qLam)] H7 := by
          obtain ⟨xs, hx⟩ := (D6.new (o := .lst [V.int 30, V.int 8]) np).lst
          exact tabs_smx (Tabs.ext T6 (same_new (Same.refl _) np)) hx S7
        refine ⟨d, _, .ref t, pl, ts, rfl, D7, by omega, hDt, fine, by omega, T7, fun H8 S8 D8 T8 => ⟨_, rfl, iteF ⟨⟨_, rfl⟩, ?_, ?_, T8⟩⟩⟩
        · refine SmY.trans (SmY.ofX ?_ S7) S8
          exact fun x o n tt h => same_new (Same.refl _) np x o (S6 x o n tt h)
        · exact D8.mono (by omega)
      · obtain ⟨⟨x3, rfl⟩, S6, D6, T6⟩ := hP
        refine ⟨⟨_, _, _, rfl⟩, fun b o h tt => S6 b o (fun e => ?_) tt (S5 _ _ (SM _ _ h tt)), T6⟩
        rw [e] at h
        rw [SM _ _ h tt] at d0
        cases d0
    · refine ⟨(by show 1 ≤ sizeLine; decide), fun p1 np1 => ⟨Nat.zero_le _, fun p2 np2 => ⟨(by show 2 ≤ sizeLine; decide), fun p3 np3 => ?_⟩⟩⟩
      refine ⟨.ref p3, [[97]], [], 0, rfl, .tup upd_same (.cons (.tup (((TK.new np2).trans (TK.new np3)).tup _ _ upd_same) (.cons (.str _) .nil)) (.cons (.tup ((TK.new np3).tup _ _ upd_same) .nil) .nil)), fine_one, Tabs.ext hT (same_new (same_new (same_new (Same.refl _) np1) np2) np3), fun H4 r e4 t4 h4 => ?_⟩
      rw [nth_one] at h4
      cases h4
      refine ⟨rfl, _, rfl, ?_⟩
      rw [show decide (V.non = V.non) = true from decide_eq_true rfl]
      rw [if_pos rfl]
      refine ⟨(by show 2 ≤ sizeLine; decide), fun q1 n1 => ⟨(by show 3 ≤ sizeLine; decide), fun q2 n2 => ⟨(by show 1 ≤ sizeLine; decide), fun q3 n3 => ⟨(by show 2 ≤ sizeLine; decide), fun q4 n4 => ?_⟩⟩⟩⟩
      refine ⟨.ref q4, [[97], [98]], [([98], [97], 7)], 0, rfl, .tup upd_same (.cons (.tup (((TK.new n2).trans ((TK.new n3).trans (TK.new n4))).tup _ _ upd_same) (.cons (.str _) (.cons (.str _) .nil))) (.cons (.tup ((TK.new n4).tup _ _ upd_same) (.cons (.tup (((TK.new n3).trans (TK.new n4)).tup _ _ upd_same) (.cons (.str _) (.cons (.str _) (.cons (.int _) .nil)))) .nil)) .nil)),
        fine_two, Tabs.ext t4 (same_new (same_new (same_new (same_new (Same.refl _) n1) n2) n3) n4), fun H5 r e5 t5 h5 => ?_⟩
      rw [nth_two] at h5
      refine ⟨(by show 3 ≤ sizeLine; decide), fun q5 n5 => ?_⟩
      refine ⟨triD (7, [97], [98]), triD (7, [97], [98]), Dt.dp (Dt.keep (TK.new n5) h5), .tup (.inl (.inl upd_same)) (.cons (.int _) (.cons (.str _) (.cons (.str _) .nil))), by decide +kernel, by decide +kernel, ?_⟩
      rw [show (triD (7, [97], [98])).eqv (triD (7, [97], [98])) = true by decide +kernel]
      exact q _
end
end Far

namespace Far
open PySem PySem.Spec PyProof.Rows L2
theorem same_none {P : Program} {w : World} {K : PySem.W.Frag} {mg : Str → Option Value} {base : Heap} {f : Addr} {fd : FuncData} : FnOk P w K mg base CX0 1 f fd ["found", "due"] (spSame 0) :=
  ⟨fun vs H Q E h => by obtain ⟨u, v, d, rfl, _⟩ := h; rfl, fun A outer s H args us vs Q E hr e b v h => by obtain ⟨_, _, _, _, _, _, hp, _⟩ := h; cases hp⟩
open LamX in
/-- the end where one def's code object has a table -/
theorem walk_nm {l : PySem.W.OpenLaw} {q : Program} {loose : List Str} {XP : (Str → Option Value) → Heap → Prop} {YP : World → Heap → Prop} {d dN : DefRec} {K : Params → PySem.W.Frag} {k : Nat} {x nm : Str} (room : Room k callerA) (most : l.most = some 63) (nodef : d.params.defaults = [])
    (found : (recsOf q).find? (fun e => e.name == nm) = some dN) (inK : ∀ w h, YP w h → (K w.params).In h)
    (F : ∀ (w : World) (mg : Str → Option Value) (fa : Addr) (h : Heap), (K w.params).In h → h.Ns mainGlobals mg → mg d.name = some (.ref fa) → (∀ c P, PySem.W.tabIn (K w.params) nm = some (c, P) → PySem.W.CodeHd h c P ∧ h.get? P = some (PySem.W.tabObj #[])) → LawAtS l w (K w.params) L2.CX0 k 63 x mg fa h) :
    PySem.W.WalkO q loose XP YP l.row.toRowW d [] (fun f vs => PySem.call f vs) := by
  refine Att.attach_callB most nodef fun w sA sB mg mb fL oL pmL cdL docL aL vsL nsL G Y hoL hdL hcL hmgL hobj hints hlen hbits hgens => ?_
  have KX := inK w _ Y
  obtain ⟨fdL, cs, sp, tEmpty, tNone, tCode, bnd, told, okF⟩ := F w mg fL _ KX G.T.g hmgL fun c P e => PySem.W.tab_of G.T KX found e
  refine law_callTs KX G.T.g G.T.b G.T.builtins G.T.nolimit hgens tEmpty tNone tCode G.T.bmain hobj hints (Nat.le_trans hlen (by decide)) room okF bnd (fun H hH hS => told H aL nsL hlen hbits hH hS) ?_
  intro H e s' z
  exact z
theorem all_mk {l : PySem.W.OpenLaw} {w : World} {K : PySem.W.Frag} {h : Heap} {mg : Str → Option Value} {fa f1 f2 f3 f4 f5 f6 f7 f8 f9 f10 f11 f12 f13 f14 f15 f16 f17 f18 : Addr} (X : K.In h) (G : h.Ns mainGlobals mg) (hfa : mg "law" = some (.ref fa))
    {od1 od2 od3 od4 od5 od6 od7 od8 od9 od10 od11 od12 od13 od14 od15 od16 od17 od18 an1 an2 an3 an4 an5 an6 an7 an8 an9 an10 an11 an12 an13 an14 an15 an16 an17 an18 : Option Addr} {sl1 sl2 sl3 sl4 sl5 sl6 sl7 sl8 sl9 sl10 sl11 sl12 sl13 sl14 sl15 sl16 sl17 sl18 : Array (Option Value)} {oc1 oc2 oc3 oc4 oc5 oc6 oc7 oc8 oc9 oc10 oc11 oc12 oc13 oc14 oc15 oc16 oc17 oc18 kV1 kV2 kV3 kV4 kV5 kV6 kV7 kV8 kV9 kV10 kV11 kV12 kV13 kV14 kV15 kV16 kV17 kV18 dc1 dc2 dc3 dc4 dc5 dc6 dc7 dc8 dc9 dc10 dc11 dc12 dc13 dc14 dc15 dc16 dc17 dc18 pm1 pm2 pm3 pm4 pm5 pm6 pm7 pm8 pm9 pm10 pm11 pm12 pm13 pm14 pm15 pm16 pm17 pm18 cd1 cd2 cd3 cd4 cd5 cd6 cd7 cd8 cd9 cd10 cd11 cd12 cd13 cd14 cd15 cd17 cd18 ct1 ct2 ct3 ct4 ct5 ct6 ct7 ct8 ct9 ct10 ct11 ct12 ct13 ct14 ct15 ct16 ct17 ct18 : Value}
    {cN Pt : Addr} {eN : Value} {ddN : Option Addr} {vsN : Array Value} {sN : Array (Option Value)} (kc : K.lookup cN = some ⟨eN, ddN, .fields vsN, sN⟩) (vP : (vsN[11]? : Option Value) = some (.ref Pt)) (nT : K.lookup Pt = none) (tab : ∀ c P, PySem.W.tabIn K "nth_farthest" = some (c, P) → PySem.W.CodeHd h c P ∧ h.get? P = some (PySem.W.tabObj #[]))
    (a1 : PySem.W.nsIn K mainGlobals "_law_folded" = some (some (.ref f1))) (l1 : K.lookup f1 = some ⟨oc1, od1, .func (PySem.W.fnOf "_law_folded" "_law_folded" (defArgs s_law_folded) (defBody s_law_folded) (defScope s_law_folded) .none kV1 dc1 pm1 an1 cd1 ct1), sl1⟩) (c1 : PySem.W.codeIn K cd1 "_law_folded" = true) (k1 : PySem.W.keepIn K (.ref f1) = true)
    (a2 : PySem.W.nsIn K mainGlobals "_law_seed" = some (some (.ref f2))) (l2 : K.lookup f2 = some ⟨oc2, od2, .func (PySem.W.fnOf "_law_seed" "_law_seed" (defArgs s_law_seed) (defBody s_law_seed) (defScope s_law_seed) .none kV2 dc2 pm2 an2 cd2 ct2), sl2⟩) (c2 : PySem.W.codeIn K cd2 "_law_seed" = true) (k2 : PySem.W.keepIn K (.ref f2) = true)
    (a3 : PySem.W.nsIn K mainGlobals "_law_draw" = some (some (.ref f3))) (l3 : K.lookup f3 = some ⟨oc3, od3, .func (PySem.W.fnOf "_law_draw" "_law_draw" (defArgs s_law_draw) (defBody s_law_draw) (defScope s_law_draw) .none kV3 dc3 pm3 an3 cd3 ct3), sl3⟩) (c3 : PySem.W.codeIn K cd3 "_law_draw" = true) (k3 : PySem.W.keepIn K (.ref f3) = true)
    (a4 : PySem.W.nsIn K mainGlobals "_law_name" = some (some (.ref f4))) (l4 : K.lookup f4 = some ⟨oc4, od4, .func (PySem.W.fnOf "_law_name" "_law_name" (defArgs s_law_name) (defBody s_law_name) (defScope s_law_name) .none kV4 dc4 pm4 an4 cd4 ct4), sl4⟩) (c4 : PySem.W.codeIn K cd4 "_law_name" = true) (k4 : PySem.W.keepIn K (.ref f4) = true)
    (a5 : PySem.W.nsIn K mainGlobals "_law_length" = some (some (.ref f5))) (l5 : K.lookup f5 = some ⟨oc5, od5, .func (PySem.W.fnOf "_law_length" "_law_length" (defArgs s_law_length) (defBody s_law_length) (defScope s_law_length) .none kV5 dc5 pm5 an5 cd5 ct5), sl5⟩) (c5 : PySem.W.codeIn K cd5 "_law_length" = true) (k5 : PySem.W.keepIn K (.ref f5) = true)
    (a6 : PySem.W.nsIn K mainGlobals "_law_tree" = some (some (.ref f6))) (l6 : K.lookup f6 = some ⟨oc6, od6, .func (PySem.W.fnOf "_law_tree" "_law_tree" (defArgs s_law_tree) (defBody s_law_tree) (defScope s_law_tree) .none kV6 dc6 pm6 an6 cd6 ct6), sl6⟩) (c6 : PySem.W.codeIn K cd6 "_law_tree" = true) (k6 : PySem.W.keepIn K (.ref f6) = true)
    (a7 : PySem.W.nsIn K mainGlobals "_law_lengths" = some (some (.ref f7))) (l7 : K.lookup f7 = some ⟨oc7, od7, .func (PySem.W.fnOf "_law_lengths" "_law_lengths" (defArgs s_law_lengths) (defBody s_law_lengths) (defScope s_law_lengths) .none kV7 dc7 pm7 an7 cd7 ct7), sl7⟩) (c7 : PySem.W.codeIn K cd7 "_law_lengths" = true) (k7 : PySem.W.keepIn K (.ref f7) = true)
    (a8 : PySem.W.nsIn K mainGlobals "_law_pairs" = some (some (.ref f8))) (l8 : K.lookup f8 = some ⟨oc8, od8, .func (PySem.W.fnOf "_law_pairs" "_law_pairs" (defArgs s_law_pairs) (defBody s_law_pairs) (defScope s_law_pairs) .none kV8 dc8 pm8 an8 cd8 ct8), sl8⟩) (c8 : PySem.W.codeIn K cd8 "_law_pairs" = true) (k8 : PySem.W.keepIn K (.ref f8) = true)
    (a9 : PySem.W.nsIn K mainGlobals "_law_same" = some (some (.ref f9))) (l9 : K.lookup f9 = some ⟨oc9, od9, .func (PySem.W.fnOf "_law_same" "_law_same" (defArgs s_law_same) (defBody s_law_same) (defScope s_law_same) .none kV9 dc9 pm9 an9 cd9 ct9), sl9⟩) (c9 : PySem.W.codeIn K cd9 "_law_same" = true) (k9 : PySem.W.keepIn K (.ref f9) = true)
    (a10 : PySem.W.nsIn K mainGlobals "_law_in_order" = some (some (.ref f10))) (l10 : K.lookup f10 = some ⟨oc10, od10, .func (PySem.W.fnOf "_law_in_order" "_law_in_order" (defArgs s_law_in_order) (defBody s_law_in_order) (defScope s_law_in_order) .none kV10 dc10 pm10 an10 cd10 ct10), sl10⟩) (c10 : PySem.W.codeIn K cd10 "_law_in_order" = true) (k10 : PySem.W.keepIn K (.ref f10) = true)
    (a11 : PySem.W.nsIn K mainGlobals "_ties_of_each" = some (some (.ref f11))) (l11 : K.lookup f11 = some ⟨oc11, od11, .func (PySem.W.fnOf "_ties_of_each" "_ties_of_each" (defArgs s_ties_of_each) (defBody s_ties_of_each) (defScope s_ties_of_each) .none kV11 dc11 pm11 an11 cd11 ct11), sl11⟩) (c11 : PySem.W.codeIn K cd11 "_ties_of_each" = true) (k11 : PySem.W.keepIn K (.ref f11) = true)
    (a12 : PySem.W.nsIn K mainGlobals "walk_from" = some (some (.ref f12))) (l12 : K.lookup f12 = some ⟨oc12, od12, .func (PySem.W.fnOf "walk_from" "walk_from" (defArgs s_walk_from) (defBody s_walk_from) (defScope s_walk_from) .none kV12 dc12 pm12 an12 cd12 ct12), sl12⟩) (c12 : PySem.W.codeIn K cd12 "walk_from" = true) (k12 : PySem.W.keepIn K (.ref f12) = true)
    (a13 : PySem.W.nsIn K mainGlobals "check_places" = some (some (.ref f13))) (l13 : K.lookup f13 = some ⟨oc13, od13, .func (PySem.W.fnOf "check_places" "check_places" (defArgs s_check_places) (defBody s_check_places) (defScope s_check_places) .none kV13 dc13 pm13 an13 cd13 ct13), sl13⟩) (c13 : PySem.W.codeIn K cd13 "check_places" = true) (k13 : PySem.W.keepIn K (.ref f13) = true)
    (a14 : PySem.W.nsIn K mainGlobals "lengths_from" = some (some (.ref f14))) (l14 : K.lookup f14 = some ⟨oc14, od14, .func (PySem.W.fnOf "lengths_from" "lengths_from" (defArgs s_lengths_from) (defBody s_lengths_from) (defScope s_lengths_from) .none kV14 dc14 pm14 an14 cd14 ct14), sl14⟩) (c14 : PySem.W.codeIn K cd14 "lengths_from" = true) (k14 : PySem.W.keepIn K (.ref f14) = true)
    (a15 : PySem.W.nsIn K mainGlobals "pairs_in_order" = some (some (.ref f15))) (l15 : K.lookup f15 = some ⟨oc15, od15, .func (PySem.W.fnOf "pairs_in_order" "pairs_in_order" (defArgs s_pairs_in_order) (defBody s_pairs_in_order) (defScope s_pairs_in_order) .none kV15 dc15 pm15 an15 cd15 ct15), sl15⟩) (c15 : PySem.W.codeIn K cd15 "pairs_in_order" = true) (k15 : PySem.W.keepIn K (.ref f15) = true)
    (a16 : PySem.W.nsIn K mainGlobals "nth_farthest" = some (some (.ref f16))) (l16 : K.lookup f16 = some ⟨oc16, od16, .func (PySem.W.fnOf "nth_farthest" "nth_farthest" (defArgs s_nth_farthest) (defBody s_nth_farthest) (defScope s_nth_farthest) .none kV16 dc16 pm16 an16 (.ref cN) ct16), sl16⟩) (c16 : PySem.W.codeIn K (.ref cN) "nth_farthest" = true) (k16 : PySem.W.keepIn K (.ref f16) = true)
    (a17 : PySem.W.nsIn K mainGlobals "_law_right" = some (some (.ref f17))) (l17 : K.lookup f17 = some ⟨oc17, od17, .func (PySem.W.fnOf "_law_right" "_law_right" (defArgs s_law_right) (defBody s_law_right) (defScope s_law_right) .none kV17 dc17 pm17 an17 cd17 ct17), sl17⟩) (c17 : PySem.W.codeIn K cd17 "_law_right" = true) (k17 : PySem.W.keepIn K (.ref f17) = true)
    (a18 : PySem.W.nsIn K mainGlobals "law" = some (some (.ref f18))) (l18 : K.lookup f18 = some ⟨oc18, od18, .func (PySem.W.fnOf "law" "law" (defArgs s_law) (defBody s_law) (defScope s_law) .none kV18 dc18 pm18 an18 cd18 ct18), sl18⟩) (c18 : PySem.W.codeIn K cd18 "law" = true) (k18 : PySem.W.keepIn K (.ref f18) = true)
    (zbool : PySem.W.nsIn K mainGlobals "bool" = some none)
    (zenumerate : PySem.W.nsIn K mainGlobals "enumerate" = some none)
    (zint : PySem.W.nsIn K mainGlobals "int" = some none)
    (zisinstance : PySem.W.nsIn K mainGlobals "isinstance" = some none)
    (zlen : PySem.W.nsIn K mainGlobals "len" = some none)
    (zlist : PySem.W.nsIn K mainGlobals "list" = some none)
    (zmax : PySem.W.nsIn K mainGlobals "max" = some none)
    (zmin : PySem.W.nsIn K mainGlobals "min" = some none)
    (zrange : PySem.W.nsIn K mainGlobals "range" = some none)
    (zsorted : PySem.W.nsIn K mainGlobals "sorted" = some none)
    (zstr : PySem.W.nsIn K mainGlobals "str" = some none)
    (ztuple : PySem.W.nsIn K mainGlobals "tuple" = some none)
    (zzip : PySem.W.nsIn K mainGlobals "zip" = some none) :
    LamX.LawAtS l w K L2.CX0 7 63 "script" mg fa h := by
  have e := hfa.symm.trans (PySem.W.mg_of X G a18)
  cases e
  have F1 := fun_mk (st := s_law_folded) l1 c1 k1
  have b1 := F1.binds (ps := ["script"]) fun _ _ _ _ _ _ us hl => match us, hl with | [_], _ => rfl
  have F2 := fun_mk (st := s_law_seed) l2 c2 k2
  have b2 := F2.binds (ps := ["cell"]) fun _ _ _ _ _ _ us hl => match us, hl with | [_], _ => rfl
  have F3 := fun_mk (st := s_law_draw) l3 c3 k3
  have b3 := F3.binds (ps := ["seed", "most"]) fun _ _ _ _ _ _ us hl => match us, hl with | [_, _], _ => rfl
  have F4 := fun_mk (st := s_law_name) l4 c4 k4
  have b4 := F4.binds (ps := ["seed", "names"]) fun _ _ _ _ _ _ us hl => match us, hl with | [_, _], _ => rfl
  have F5 := fun_mk (st := s_law_length) l5 c5 k5
  have b5 := F5.binds (ps := ["seed", "kind"]) fun _ _ _ _ _ _ us hl => match us, hl with | [_, _], _ => rfl
  have F6 := fun_mk (st := s_law_tree) l6 c6 k6
  have b6 := F6.binds (ps := ["seed", "most"]) fun _ _ _ _ _ _ us hl => match us, hl with | [_, _], _ => rfl
  have F7 := fun_mk (st := s_law_lengths) l7 c7 k7
  have b7 := F7.binds (ps := ["tree"]) fun _ _ _ _ _ _ us hl => match us, hl with | [_], _ => rfl
  have F8 := fun_mk (st := s_law_pairs) l8 c8 k8
  have b8 := F8.binds (ps := ["tree"]) fun _ _ _ _ _ _ us hl => match us, hl with | [_], _ => rfl
  have F9 := fun_mk (st := s_law_same) l9 c9 k9
  have b9 := F9.binds (ps := ["found", "due"]) fun _ _ _ _ _ _ us hl => match us, hl with | [_, _], _ => rfl
  have F10 := fun_mk (st := s_law_in_order) l10 c10 k10
  have b10 := F10.binds (ps := ["pairs"]) fun _ _ _ _ _ _ us hl => match us, hl with | [_], _ => rfl
  have F11 := fun_mk (st := s_ties_of_each) l11 c11 k11
  have b11 := F11.binds (ps := ["tree"]) fun _ _ _ _ _ _ us hl => match us, hl with | [_], _ => rfl
  have F12 := fun_mk (st := s_walk_from) l12 c12 k12
  have b12 := F12.binds (ps := ["tree", "start"]) fun _ _ _ _ _ _ us hl => match us, hl with | [_, _], _ => rfl
  have F13 := fun_mk (st := s_check_places) l13 c13 k13
  have b13 := F13.binds (ps := ["tree", "names"]) fun _ _ _ _ _ _ us hl => match us, hl with | [_, _], _ => rfl
  have F14 := fun_mk (st := s_lengths_from) l14 c14 k14
  have b14 := F14.binds (ps := ["tree", "place"]) fun _ _ _ _ _ _ us hl => match us, hl with | [_, _], _ => rfl
  have F15 := fun_mk (st := s_pairs_in_order) l15 c15 k15
  have b15 := F15.binds (ps := ["tree"]) fun _ _ _ _ _ _ us hl => match us, hl with | [_], _ => rfl
  have F16 : FunC K "nth_farthest" "nth_farthest" s_nth_farthest f16 _ cN := ⟨_, _, _, _, _, _, _, _, rfl, l16, c16⟩
  have G16 := fun_mk (st := s_nth_farthest) l16 c16 k16
  have b16 := G16.binds (ps := ["tree", "place"]) fun _ _ _ _ _ _ us hl => match us, hl with | [_, _], _ => rfl
  have F17 := fun_mk (st := s_law_right) l17 c17 k17
  have b17 := F17.binds (ps := ["seed", "tree"]) fun _ _ _ _ _ _ us hl => match us, hl with | [_, _], _ => rfl
  have F18 := fun_mk (st := s_law) l18 c18 k18
  have T0 : TxtG mg := ⟨PySem.W.mg_none_of X G zlen, PySem.W.mg_none_of X G zmax, PySem.W.mg_none_of X G zmin, PySem.W.mg_none_of X G zint, PySem.W.mg_none_of X G zrange, PySem.W.mg_none_of X G zlist, PySem.W.mg_none_of X G ztuple⟩
  have TW : TxtW mg := ⟨PySem.W.mg_none_of X G ztuple⟩
  have TQ : TxtQ mg := ⟨PySem.W.mg_none_of X G zlen, PySem.W.mg_none_of X G zrange, PySem.W.mg_none_of X G ztuple, PySem.W.mg_none_of X G zenumerate⟩
  have TL : TxtL mg := ⟨PySem.W.mg_none_of X G zisinstance, PySem.W.mg_none_of X G ztuple, PySem.W.mg_none_of X G zstr, PySem.W.mg_none_of X G zint, PySem.W.mg_none_of X G zbool, PySem.W.mg_none_of X G zlen, PySem.W.mg_none_of X G zzip, PySem.W.mg_none_of X G zrange⟩
  have TM : TxtM mg := ⟨PySem.W.mg_none_of X G zlen, PySem.W.mg_none_of X G zrange, PySem.W.mg_none_of X G zlist, PySem.W.mg_none_of X G zmin⟩
  have TN : TxtN mg := ⟨PySem.W.mg_none_of X G zlen, PySem.W.mg_none_of X G zsorted⟩
  have TO : TxtO mg := ⟨PySem.W.mg_none_of X G zsorted, PySem.W.mg_none_of X G zenumerate⟩
  have C_law_folded : ∀ base : Heap, Cal l.prog w K mg base 1 "_law_folded" (spFolded K) := fun base => ⟨f1, _, _, ok_folded F1 T0, PySem.W.mg_of X G a1, k1, b1⟩
  have C_law_seed : ∀ base : Heap, Cal l.prog w K mg base 1 "_law_seed" spSeed := fun base => ⟨f2, _, _, ok_seed F2 T0, PySem.W.mg_of X G a2, k2, b2⟩
  have C_law_draw : ∀ base : Heap, Cal l.prog w K mg base 1 "_law_draw" spDraw := fun base => ⟨f3, _, _, ok_draw F3 T0, PySem.W.mg_of X G a3, k3, b3⟩
  have C_law_name : ∀ base : Heap, Cal l.prog w K mg base 2 "_law_name" spName := fun base => ⟨f4, _, _, ok_name F4 T0 (C_law_draw base), PySem.W.mg_of X G a4, k4, b4⟩
  have C_law_length : ∀ base : Heap, Cal l.prog w K mg base 2 "_law_length" spLength := fun base => ⟨f5, _, _, ok_length F5 (C_law_draw base), PySem.W.mg_of X G a5, k5, b5⟩
  have C_law_tree : ∀ base : Heap, Cal l.prog w K mg base 3 "_law_tree" spTree := fun base => ⟨f6, _, _, ok_tree F6 T0 (C_law_draw base) (C_law_name base) (C_law_length base), PySem.W.mg_of X G a6, k6, b6⟩
  have C_law_lengths : ∀ base : Heap, Cal l.prog w K mg base 2 "_law_lengths" spLengths := fun base => ⟨f7, _, _, ok_lengths F7, PySem.W.mg_of X G a7, k7, b7⟩
  have C_law_pairs : ∀ base : Heap, Cal l.prog w K mg base 3 "_law_pairs" spPairs := fun base => ⟨f8, _, _, ok_pairs F8 T0 (C_law_lengths base), PySem.W.mg_of X G a8, k8, b8⟩
  have C_same0 : ∀ base : Heap, Cal l.prog w K mg base 1 "_law_same" (spSame 0) := fun base => ⟨f9, _, _, same_none, PySem.W.mg_of X G a9, k9, b9⟩
  have C_same1 : ∀ base : Heap, Cal l.prog w K mg base 2 "_law_same" (spSame 1) := fun base => ⟨f9, _, _, ok_same (by decide) F9 TL (C_same0 base), PySem.W.mg_of X G a9, k9, b9⟩
  have C_same2 : ∀ base : Heap, Cal l.prog w K mg base 3 "_law_same" (spSame 2) := fun base => ⟨f9, _, _, ok_same (by decide) F9 TL (C_same1 base), PySem.W.mg_of X G a9, k9, b9⟩
  have C_same3 : ∀ base : Heap, Cal l.prog w K mg base 4 "_law_same" (spSame 3) := fun base => ⟨f9, _, _, ok_same (by decide) F9 TL (C_same2 base), PySem.W.mg_of X G a9, k9, b9⟩
  have C_same4 : ∀ base : Heap, Cal l.prog w K mg base 5 "_law_same" (spSame 4) := fun base => ⟨f9, _, _, ok_same (by decide) F9 TL (C_same3 base), PySem.W.mg_of X G a9, k9, b9⟩
  have C_law_in_order : ∀ base : Heap, Cal l.prog w K mg base 1 "_law_in_order" spInOrder := fun base => ⟨f10, _, _, ok_in_order F10 TO, PySem.W.mg_of X G a10, k10, b10⟩
  have C_ties_of_each : ∀ base : Heap, Cal l.prog w K mg base 1 "_ties_of_each" spTies := fun base => ⟨f11, _, _, ok_ties_of_each F11, PySem.W.mg_of X G a11, k11, b11⟩
  have Cwalk_from : ∀ base : Heap, Cal l.prog w K mg base 2 "walk_from" spWalk := fun base => ⟨f12, _, _, ok_walk_from F12 (C_ties_of_each base), PySem.W.mg_of X G a12, k12, b12⟩
  have Ccheck_places : ∀ base : Heap, Cal l.prog w K mg base 1 "check_places" spCheck := fun base => ⟨f13, _, _, ok_check_places F13, PySem.W.mg_of X G a13, k13, b13⟩
  have Clengths_from : ∀ base : Heap, Cal l.prog w K mg base 3 "lengths_from" spLens := fun base => ⟨f14, _, _, ok_lengths_from F14 TW (Ccheck_places base) (Cwalk_from base), PySem.W.mg_of X G a14, k14, b14⟩
  have Cpairs_in_order : ∀ base : Heap, Cal l.prog w K mg base 4 "pairs_in_order" spPio := fun base => ⟨f15, _, _, ok_pio F15 TQ (Clengths_from base), PySem.W.mg_of X G a15, k15, b15⟩
  have Cnth_farthest : ∀ base : Heap, LamX.TabB base mg cN Pt → Cal l.prog w K mg base 5 "nth_farthest" (spNth Pt) := fun base TB => ⟨f16, _, _, ok_nth F16 TN TB (Cpairs_in_order base), PySem.W.mg_of X G a16, k16, b16⟩
  have C_law_right : ∀ base : Heap, LamX.TabB base mg cN Pt → Cal l.prog w K mg base 6 "_law_right" (spRight Pt) := fun base TB => ⟨f17, _, _, ok_right F17 TM (C_law_draw base) (C_law_pairs base) (C_law_in_order base) (C_same3 base) (Cnth_farthest base TB), PySem.W.mg_of X G a17, k17, b17⟩
  have tN : PySem.W.tabIn K "nth_farthest" = some (cN, Pt) := by
    unfold PySem.W.tabIn
    simp only [a16, l16, kc, vP]
  have one : ∀ {p : Addr × Addr}, p ∈ [(cN, Pt)] → p = (cN, Pt) := fun hp => List.mem_singleton.mp hp
  refine ⟨_, [(cN, Pt)], spLawT K Pt, fun p hp => ?_, fun p hp => ?_, fun p hp => ?_, fun s v => .of_eq rfl, fun H a ns hl hb hH hS => ?_, fun base _ _ TB => ok_law F18 T0 (C_law_folded base) (C_law_seed base) (C_law_tree base) (C_law_right base (TB _ (List.mem_singleton.mpr rfl))) (Cnth_farthest base (TB _ (List.mem_singleton.mpr rfl)))⟩
  · rw [one hp]
    exact (tab _ _ tN).2
  · rw [one hp]
    exact nT
  · rw [one hp]
    exact (tab _ _ tN).1
  · refine ⟨a, ns, rfl, hS, hl, fun p hp => ?_, fun _ => rfl⟩
    rw [List.mem_singleton.mp hp]
    exact LamX.TabS.nil (hH _ (List.mem_singleton.mpr rfl))
end Far
open PySem PySem.W PyProof.Rows in
set_option maxRecDepth 100000 in
set_option maxHeartbeats 0 in
theorem PySem.Challenge.cw_farplaces_k08_so_manieth_pairs_holds : PySem.Challenge.rw_farplaces_k08_so_manieth_pairs.Holds := by
  w_on; o_law; k_head; (case hw => w_witness2)
  k_fill
  refine Far.walk_nm (l := PySem.Challenge.rw_farplaces_k08_so_manieth_pairs) (k := 7) (x := "script") (nm := "nth_farthest") ⟨rfl, by decide, by decide⟩ rfl rfl (by rfl) (fun w h Y => PySem.W.km_in_of Y) ?F
  case F =>
    intro w mg fa h KX G hmg tab
    refine' Far.all_mk KX G hmg ?kc ?vP ?nT tab ?a1 ?l1 ?c1 ?k1 ?a2 ?l2 ?c2 ?k2 ?a3 ?l3 ?c3 ?k3 ?a4 ?l4 ?c4 ?k4 ?a5 ?l5 ?c5 ?k5 ?a6 ?l6 ?c6 ?k6 ?a7 ?l7 ?c7 ?k7 ?a8 ?l8 ?c8 ?k8 ?a9 ?l9 ?c9 ?k9 ?a10 ?l10 ?c10 ?k10 ?a11 ?l11 ?c11 ?k11 ?a12 ?l12 ?c12 ?k12 ?a13 ?l13 ?c13 ?k13 ?a14 ?l14 ?c14 ?k14 ?a15 ?l15 ?c15 ?k15 ?a16 ?l16 ?c16 ?k16 ?a17 ?l17 ?c17 ?k17 ?a18 ?l18 ?c18 ?k18 ?zbool ?zenumerate ?zint ?zisinstance ?zlen ?zlist ?zmax ?zmin ?zrange ?zsorted ?zstr ?ztuple ?zzip
    (case a1 => k_is); (case l1 => k_is); (case c1 => k_is); (case k1 => k_is); (case a2 => k_is); (case l2 => k_is); (case c2 => k_is); (case k2 => k_is); (case a3 => k_is); (case l3 => k_is); (case c3 => k_is); (case k3 => k_is); (case a4 => k_is); (case l4 => k_is); (case c4 => k_is); (case k4 => k_is); (case a5 => k_is); (case l5 => k_is); (case c5 => k_is); (case k5 => k_is); (case a6 => k_is); (case l6 => k_is); (case c6 => k_is); (case k6 => k_is); (case a7 => k_is); (case l7 => k_is); (case c7 => k_is); (case k7 => k_is); (case a8 => k_is); (case l8 => k_is); (case c8 => k_is); (case k8 => k_is); (case a9 => k_is); (case l9 => k_is); (case c9 => k_is); (case k9 => k_is); (case a10 => k_is); (case l10 => k_is); (case c10 => k_is); (case k10 => k_is); (case a11 => k_is); (case l11 => k_is); (case c11 => k_is); (case k11 => k_is); (case a12 => k_is); (case l12 => k_is); (case c12 => k_is); (case k12 => k_is); (case a13 => k_is); (case l13 => k_is); (case c13 => k_is); (case k13 => k_is); (case a14 => k_is); (case l14 => k_is); (case c14 => k_is); (case k14 => k_is); (case a15 => k_is); (case l15 => k_is); (case c15 => k_is); (case k15 => k_is); (case a16 => k_is); (case l16 => k_is); (case c16 => k_is); (case k16 => k_is); (case a17 => k_is); (case l17 => k_is); (case c17 => k_is); (case k17 => k_is); (case a18 => k_is); (case l18 => k_is); (case c18 => k_is); (case k18 => k_is); (case zbool => k_is); (case zenumerate => k_is); (case zint => k_is); (case zisinstance => k_is); (case zlen => k_is); (case zlist => k_is); (case zmax => k_is); (case zmin => k_is); (case zrange => k_is); (case zsorted => k_is); (case zstr => k_is); (case ztuple => k_is); (case zzip => k_is)
    (case kc => k_is); (case vP => exact rfl); (case nT => first | k_is | exact rfl)

