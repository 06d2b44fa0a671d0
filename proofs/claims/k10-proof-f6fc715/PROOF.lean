import PyProof.Rows.All
import Wide.All
import OpenK.AllK
import Wide.FinOn
import HandS.ForMost
import HandS.Wide
import HandS.Codes
import HandS.Conv
import HandS.TupAny
import HandS.Style
import HandS.IsInst
import HandS.FStr
import HandS.DictComp
import HandS.NoneIn
import HandS.Strs
import KE.GoesEnum
import KE.GoesMore
import PyProof.EnumMake
import HandS.Zip
import HandS.List
import KE.KTupSum
import PyProof.WalkInts
import HandS.Lambda
import HandS.SortKw
import KE.SortKeyHeap
import KE.KSortKey
import KE.SortData
import HandS.Sort
import HandS.SortInts
import HandS.TupSets
import HandS.DictTup
import HandS.SetFor
import KE.SortCalls
import PyProof.TupleOfSeq
import HandS.EndTab
import KE.KNest
import KE.KNestM
import PySem.Challenge.RW_farplaces_k10_whole_pairs_together
set_option Elab.async false
set_option linter.all false
set_option maxRecDepth 100000
set_option maxHeartbeats 8000000
namespace Far
open PySem PySem.Spec PyProof.Rows L2
open C8 (pss_cut tCut)
open SX (S)
def topS (i : Nat) : Stmt := PySem.Challenge.pw_farplaces_k10_whole_pairs_together.main.body.getD i (.Pass ⟨0, 0, 0, 0⟩)

theorem hd_of {A : Around} {k : Nat} (hr : Room k A) (h : 1 ≤ k) : A.units + 64 < cLine := by
  have := hr.units
  omega

/-- a def of the module that may be called by its name -/
structure Cal (P : Program) (w : World) (K : PySem.W.Frag) (mg : Str → Option Value) (base : Heap) (k : Nat) (x : Str) (sp : Sp) : Prop where
  ex : ∃ (f : Addr) (fd : FuncData) (ps : List Str), FnOk P w K mg base CX0 k f fd ps sp ∧ mg x = some (.ref f) ∧ PySem.W.keepIn K (.ref f) = true ∧ Binds K fd ps []
theorem pe_c {X : Cx} {k j : Nat} {x : Str} {sp : Sp} {p pos : Pos} {e : Expr} {es : List Expr} {t : TA} (c : Cal X.prog X.w X.K X.mg X.base k x sp) (hr : Room j X.A) (hk : k ≤ j) (hg : Gl X x) (ha : PA X (e :: es) t)
    (hdb : (x == ("__debug__" : Str)) = false := by decide) (he : starEach (e :: es) X.env = (false, eval e X.env) :: starEach es X.env := by rfl) (hpl : (backTo pos (starEach es X.env)).any (·.1) = false := by rfl) :
    PE X (.Call (.Name x p) (e :: es) [] pos) (tCall sp [] E0 t) := by
  obtain ⟨f, fd, ps, F, hm, kp, b⟩ := c.ex
  exact pe_call F (hr.mono hk) hg hm kp b .nil pass0 ha hdb he hpl

theorem bt_len : bootBuiltins ("len" : Str) = some (.builtin "len") := by decide +kernel
theorem bt_sum : bootBuiltins ("sum" : Str) = some (.builtin "sum") := by decide +kernel
theorem bt_max : bootBuiltins ("max" : Str) = some (.builtin "max") := by decide +kernel
theorem bt_all : bootBuiltins ("all" : Str) = some (.builtin "all") := by decide +kernel
theorem bt_isinstance : bootBuiltins ("isinstance" : Str) = some (.builtin "isinstance") := by decide +kernel
theorem bt_int : bootBuiltins ("int" : Str) = some (.type "int") := by decide +kernel
theorem bt_str : bootBuiltins ("str" : Str) = some (.type "str") := by decide +kernel
theorem bt_tuple : bootBuiltins ("tuple" : Str) = some (.type "tuple") := by decide +kernel
theorem bt_bool : bootBuiltins ("bool" : Str) = some (.type "bool") := by decide +kernel
theorem bt_list : bootBuiltins ("list" : Str) = some (.type "list") := by decide +kernel
/-- rules with the written part named, for use within a comprehension -/
def rLenV (K : PySem.W.Frag) : List V → Hp → VK → Prop := fun xs H Q => ∃ x n, xs = [x] ∧ LenV K x H n ∧ Q (.int n) H
theorem lenK {X : Cx} {K : PySem.W.Frag} (e : X.K = K := by rfl) : CallR X (.builtin "len") (rLenV K) := by
  subst e
  exact call_len
theorem ixl {X : Cx} {K : PySem.W.Frag} (e : X.K = K := by rfl) : IxR X (rIxL K) := by
  subst e
  exact ix_list
theorem ixt {X : Cx} {K : PySem.W.Frag} (e : X.K = K := by rfl) : IxR X (rIxT K) := by
  subst e
  exact ix_tup
/-- what the module's names hold that are built-ins, and its constants -/
structure Txt (mg : Str → Option Value) : Prop where
  len : mg "len" = none
  sum : mg "sum" = none
  range : mg "range" = none
  int : mg "int" = none
  max : mg "max" = none
  list : mg "list" = none
  tuple : mg "tuple" = none

/-- all that stood stands as it was, but for the one object -/
def SmX (d : Addr) (H H' : Hp) : Prop := ∀ b o, b ≠ d → H b = some o → H' b = some o
theorem SmX.refl {d : Addr} (H : Hp) : SmX d H H := fun _ _ _ h => h
theorem SmX.trans {d : Addr} {H H1 H2 : Hp} (a : SmX d H H1) (b : SmX d H1 H2) : SmX d H H2 := fun x o n h => b x o n (a x o n h)
theorem SmX.new {d : Addr} {H H1 : Hp} {p : Addr} {o : HO} (a : SmX d H H1) (n : H1 p = none) : SmX d H (upd H1 p o) := fun x u nx h => by
  rw [upd_ne (ne_of_none (a x u nx h) n)]
  exact a x u nx h
theorem SmX.mut {d : Addr} {H H1 : Hp} {o : HO} (a : SmX d H H1) : SmX d H (upd H1 d o) := fun x u nx h => by
  rw [upd_ne nx]
  exact a x u nx h
/-- an object that the first heap does not know may change -/
theorem SmX.put {d : Addr} {H H1 : Hp} {p : Addr} {o : HO} (a : SmX d H H1) (n : H p = none) : SmX d H (upd H1 p o) := fun x u nx h => by
  rw [upd_ne (ne_of_none h n)]
  exact a x u nx h

/-- the deck at d, its cells at c: at most n were mixed -/
def DeckAt (H : Hp) (d c : Addr) (n : Nat) : Prop := ∃ (cs : List Int) (i l m z : Int), H d = some (.lst [.ref c, .int i, .int l, .int m, .int z]) ∧ H c = some (.lst (cs.map V.int)) ∧ c ≠ d ∧ cs.length ≤ 63 ∧ 0 ≤ i ∧ i ≤ 63 ∧ 0 ≤ l ∧ 0 ≤ m ∧ m ≤ n
theorem DeckAt.new {H : Hp} {d c p : Addr} {o : HO} {n : Nat} (h : DeckAt H d c n) (np : H p = none) : DeckAt (upd H p o) d c n := by
  obtain ⟨cs, i, l, m, z, h1, h2, h3⟩ := h
  exact ⟨cs, i, l, m, z, by rw [upd_ne (ne_of_none h1 np)]; exact h1, by rw [upd_ne (ne_of_none h2 np)]; exact h2, h3⟩
theorem DeckAt.put {H : Hp} {d c p : Addr} {o : HO} {n : Nat} (h : DeckAt H d c n) (nd : p ≠ d) (nc : p ≠ c) : DeckAt (upd H p o) d c n := by
  obtain ⟨cs, i, l, m, z, h1, h2, h3⟩ := h
  exact ⟨cs, i, l, m, z, by rw [upd_ne nd.symm]; exact h1, by rw [upd_ne nc.symm]; exact h2, h3⟩
theorem DeckAt.nd {H : Hp} {d c p : Addr} {n : Nat} (h : DeckAt H d c n) (np : H p = none) : p ≠ d := fun e => by
  obtain ⟨_, _, _, _, _, h1, _⟩ := h
  rw [e, h1] at np
  cases np
theorem DeckAt.nc {H : Hp} {d c p : Addr} {n : Nat} (h : DeckAt H d c n) (np : H p = none) : p ≠ c := fun e => by
  obtain ⟨_, _, _, _, _, _, h2, _⟩ := h
  rw [e, h2] at np
  cases np
theorem DeckAt.mono {H : Hp} {d c : Addr} {n m : Nat} (h : DeckAt H d c n) (le : n ≤ m) : DeckAt H d c m := by
  obtain ⟨cs, i, l, m', z, h1, h2, h3, h4, h5, h6, h7, h8, h9⟩ := h
  exact ⟨cs, i, l, m', z, h1, h2, h3, h4, h5, h6, h7, h8, by omega⟩
theorem SmX.free {d : Addr} {H H' : Hp} {p : Addr} (a : SmX d H H') (n : H' p = none) (nd : p ≠ d) : H p = none := by
  cases q : H p with
  | none => rfl
  | some o =>
    rw [a p o nd q] at n
    cases n

/-- the signs of a name -/
def NameOk (l : List Nat) : Prop := 1 ≤ l.length ∧ l.length ≤ 8 ∧ ∀ c ∈ l, 97 ≤ c ∧ c ≤ 122
theorem sz_le {n : Nat} (h : n ≤ 100000) : n ≤ sizeLine := Nat.le_trans h (by decide)
theorem sz_lt {n : Nat} (h : n ≤ 100000) : n < sizeLine := Nat.lt_of_le_of_lt h (by decide)
theorem atI_in {α : Type} {xs : List α} {i : Int} (h0 : 0 ≤ i) (h1 : i < xs.length) : ∃ v, atI xs i = some v ∧ v ∈ xs := by
  have e : i = ((i.toNat : Nat) : Int) := by omega
  have l : i.toNat < xs.length := by omega
  refine ⟨xs[i.toNat], ?_, List.getElem_mem l⟩
  have q := atI_nat (List.getElem?_eq_getElem l)
  rwa [← e] at q
theorem S_of (z : Str) : ∃ l, z = S l := ⟨z.cps.toList, (SX.S_tl z).symm⟩
theorem join_none : ∀ ys : List (List Nat), TL.joinL [] ys = ys.flatten
  | [] => rfl
  | [x] => by simp [TL.joinL]
  | x :: y :: r => by
    have ih := join_none (y :: r)
    show x ++ ([] ++ TL.joinL [] (y :: r)) = x ++ (y :: r).flatten
    rw [ih]
    rfl
theorem flat_one (cs : List Nat) : (cs.map fun c => [c]).flatten = cs := by
  induction cs with
  | nil => rfl
  | cons c r ih => rw [List.map_cons, List.flatten_cons, ih]; rfl
theorem one_sum' (cs : List Nat) : ((cs.map fun c => S [c]).map (·.length)).sum = cs.length := by
  induction cs with
  | nil => rfl
  | cons c r ih =>
    rw [List.map_cons, List.map_cons, List.sum_cons, ih, List.length_cons, SX.S_len]
    show 1 + r.length = r.length + 1
    omega
theorem bt_min : bootBuiltins ("min" : Str) = some (.builtin "min") := by decide +kernel
theorem same_new {H H1 : Hp} {p : Addr} {o : HO} (a : Same H H1) (n : H1 p = none) : Same H (upd H1 p o) := fun x u h => by
  rw [upd_ne (ne_of_none (a x u h) n)]
  exact a x u h
theorem same_put {H H1 : Hp} {p : Addr} {o : HO} (a : Same H H1) (n : H p = none) : Same H (upd H1 p o) := fun x u h => by
  rw [upd_ne (ne_of_none h n)]
  exact a x u h
end Far

namespace Far
open PySem PySem.Spec PyProof.Rows L2
open C8 (pss_cut tCut)
open SX (S)
structure TxtG (mg : Str → Option Value) : Prop where
  len : mg "len" = none
  max : mg "max" = none
  min : mg "min" = none
  int : mg "int" = none
  range : mg "range" = none
  list : mg "list" = none
  tuple : mg "tuple" = none
/-- the seed at d, drawn from n times at most -/
def SeedAt (H : Hp) (d : Addr) (n : Nat) : Prop := ∃ a f k m : Int, H d = some (.lst [.int a, .int f, .int k, .int m]) ∧ 0 ≤ a ∧ 0 ≤ k ∧ k ≤ n ∧ 0 ≤ m ∧ m < 1999999913
theorem SeedAt.new {H : Hp} {d p : Addr} {o : HO} {n : Nat} (h : SeedAt H d n) (np : H p = none) : SeedAt (upd H p o) d n := by
  obtain ⟨a, f, k, m, h1, h2⟩ := h
  exact ⟨a, f, k, m, by rw [upd_ne (ne_of_none h1 np)]; exact h1, h2⟩
theorem SeedAt.put {H : Hp} {d p : Addr} {o : HO} {n : Nat} (h : SeedAt H d n) (nd : p ≠ d) : SeedAt (upd H p o) d n := by
  obtain ⟨a, f, k, m, h1, h2⟩ := h
  exact ⟨a, f, k, m, by rw [upd_ne nd.symm]; exact h1, h2⟩
theorem SeedAt.nd {H : Hp} {d p : Addr} {n : Nat} (h : SeedAt H d n) (np : H p = none) : p ≠ d := fun e => by
  obtain ⟨a, f, k, m, h1, _⟩ := h
  rw [e, h1] at np
  cases np
theorem SeedAt.mono {H : Hp} {d : Addr} {n m : Nat} (h : SeedAt H d n) (l : n ≤ m) : SeedAt H d m := by
  obtain ⟨a, f, k, z, h1, h2, h3, h4, h5⟩ := h
  exact ⟨a, f, k, z, h1, h2, h3, by omega, h5⟩
theorem SeedAt.lst {H : Hp} {d : Addr} {n : Nat} (h : SeedAt H d n) : ∃ xs, H d = some (.lst xs) := by
  obtain ⟨_, _, _, _, h1, _⟩ := h
  exact ⟨_, h1⟩
abbrev s_law_folded : Stmt := topS 16
abbrev N_law_folded : List Str := ["script", "found", "cell"]
theorem sc_law_folded : FnScope N_law_folded ["script"] (defScope s_law_folded) := ⟨rfl, rfl, rfl, by decide +kernel, rfl, by decide +kernel, by decide +kernel⟩
section
variable {P : Program} {w : World} {K : PySem.W.Frag} {mg : Str → Option Value} {base : Heap}
def spFolded (K : PySem.W.Frag) : Sp := fun vs H Q _ => ∃ (a : Addr) (ns : List Int), vs = [.ref a] ∧ SqL K H a (ns.map V.int) ∧ ns.length ≤ 63 ∧ ∀ r : Int, 0 ≤ r → Q (.int r) H
theorem ok_folded {f : Addr} {fd : FuncData} (F : Fun K "_law_folded" "_law_folded" s_law_folded f fd) (T : TxtG mg) : FnOk P w K mg base CX0 1 f fd ["script"] (spFolded K) := by
  refine F.ok sc_law_folded (fun vs H Q E h => ?_) (fun cdv A outer s H vs Q E hr h => ?_)
  · obtain ⟨a, ns, rfl, _⟩ := h
    rfl
  · obtain ⟨a, ns, rfl, hS, hl, q⟩ := h
    refine ⟨_, (pss_cons (ps_set (i := 1) sc_law_folded.nd rfl (.inl rfl) (pe_callB call_len_seq (by rfl) T.len bt_len (pa_cons (pv 0) pa_nil)))
      (pss_cut (ps_for PassesOwn.never rfl (pi_list (pv 0)) (pg_name (i := 2) sc_law_folded.nd rfl (.inl rfl))
        (pss_one (ps_set (i := 1) sc_law_folded.nd rfl (.inl rfl) (pe_op op_mod (pe_op op_add (pe_op op_mul (pv 1) pe_int) (pe_op op_mod (pv 2) pe_int)) pe_int))))
      (pss_one (ps_ret (pv 1))))), ?_⟩
    refine ⟨_, rfl, a, _, rfl, .inl hS, ?_⟩
    refine ⟨fun σ' H' => ∃ (r : Int) (x : Option V), σ' = [some (.ref a), some (.int r), x] ∧ 0 ≤ r ∧ H' = H, ?_, fun σ' H' hM => ?_⟩
    · refine ⟨_, rfl, a, rfl, ⟨_, hS⟩, for_list (K := K) (a := a) (xs := ns.map V.int) (fun i σ' H' => ∃ (r : Int) (x : Option V), σ' = [some (.ref a), some (.int r), x] ∧ 0 ≤ r ∧ r < 2147483647 ∧ H' = H) ⟨_, _, rfl, by omega, by rw [List.length_map]; omega, rfl⟩ (fun i σ' H' _ hP => ?_) (fun i v σ' H' hi hP => ?_) (fun σ' H' hP => ?_)⟩
      · obtain ⟨_, _, _, _, _, rfl⟩ := hP
        exact hS
      · obtain ⟨r, x, rfl, r0, r1, rfl⟩ := hP
        rw [List.getElem?_map] at hi
        cases e : ns[i]? with
        | none =>
          rw [e] at hi
          cases hi
        | some c =>
          rw [e] at hi
          have ev : v = .int c := (Option.some.inj hi).symm
          subst ev
          refine ⟨_, rfl, _, _, rfl, rfl, .inl ⟨by omega, by omega⟩, _, rfl, _, _, rfl, rfl, (by show (0 : Int) < _; decide), _, _, rfl, rfl, _, _, rfl, rfl, (by show (0 : Int) < _; decide), ?_⟩
          exact ⟨_, _, rfl, Int.emod_nonneg _ (by decide), Int.emod_lt_of_pos _ (by decide), rfl⟩
      · obtain ⟨r, x, rfl, r0, r1, rfl⟩ := hP
        exact ⟨r, x, rfl, r0, rfl⟩
    · obtain ⟨r, x, rfl, r0, rfl⟩ := hM
      exact ⟨_, rfl, q r r0⟩
end
abbrev s_law_seed : Stmt := topS 17
abbrev N_law_seed : List Str := ["cell", "number"]
theorem sc_law_seed : FnScope N_law_seed ["cell"] (defScope s_law_seed) := ⟨rfl, rfl, rfl, by decide +kernel, rfl, by decide +kernel, by decide +kernel⟩
section
variable {P : Program} {w : World} {K : PySem.W.Frag} {mg : Str → Option Value} {base : Heap}
def spSeed : Sp := fun vs H Q _ => ∃ c : Int, vs = [.int c] ∧ ∀ (H' : Hp) (d : Addr), Same H H' → H d = none → SeedAt H' d 0 → Q (.ref d) H'
theorem ok_seed {f : Addr} {fd : FuncData} (F : Fun K "_law_seed" "_law_seed" s_law_seed f fd) (T : TxtG mg) : FnOk P w K mg base CX0 1 f fd ["cell"] spSeed := by
  refine F.ok sc_law_seed (fun vs H Q E h => ?_) (fun cdv A outer s H vs Q E hr h => ?_)
  · obtain ⟨c, rfl, _⟩ := h
    rfl
  · obtain ⟨c, rfl, q⟩ := h
    refine ⟨_, (pss_cons (ps_set (i := 1) sc_law_seed.nd rfl (.inl rfl) (pe_callB (call_max2 rfl) (by rfl) T.max bt_max (pa_cons (pv 0) (pa_cons (pe_op op_sub pe_int (pv 0)) pa_nil))))
      (pss_one (ps_ret (pe_lst (pa_cons (pv 1) (pa_cons (pe_callTy call_int1 (by rfl) T.int bt_int (pa_cons (pe_cmpR op_ge (pv 1) (pe_op op_pow pe_int pe_int) (nomark _)) pa_nil)) (pa_cons pe_int (pa_cons (pe_op op_mod (pv 0) pe_int) pa_nil)))))))), ?_⟩
    refine ⟨_, rfl, _, rfl, _, _, rfl, rfl, _, _, rfl, ?_⟩
    refine ⟨_, rfl, _, rfl, _, _, rfl, rfl, ⟨by decide, by decide, by decide⟩, _, _, rfl, rfl, .inr ⟨_, rfl, ?_⟩⟩
    refine ⟨_, rfl, _, _, rfl, rfl, (by show (0 : Int) < _; decide), (by show 4 ≤ sizeLine; decide), fun d nd => ?_⟩
    refine q _ d (same_new (Same.refl H) nd) nd ⟨_, _, 0, c % 1999999913, upd_same, ?_, by omega, by omega, by omega, by omega⟩
    split <;> omega
end
abbrev s_law_draw : Stmt := topS 18
abbrev N_law_draw : List Str := ["seed", "most", "found", "number"]
theorem sc_law_draw : FnScope N_law_draw ["seed", "most"] (defScope s_law_draw) := ⟨rfl, rfl, rfl, by decide +kernel, rfl, by decide +kernel, by decide +kernel⟩
section
variable {P : Program} {w : World} {K : PySem.W.Frag} {mg : Str → Option Value} {base : Heap}
def spDraw : Sp := fun vs H Q _ => ∃ (d : Addr) (n : Nat) (many : Int), vs = [.ref d, .int many] ∧ SeedAt H d n ∧ n < 100000 ∧ 0 < many ∧ many < 2 ^ 60 ∧ ∀ (H' : Hp) (r : Int), 0 ≤ r → r < many → SmX d H H' → SeedAt H' d (n + 1) → Q (.int r) H'
theorem ok_draw {f : Addr} {fd : FuncData} (F : Fun K "_law_draw" "_law_draw" s_law_draw f fd) (T : TxtG mg) : FnOk P w K mg base CX0 1 f fd ["seed", "most"] spDraw := by
  refine F.ok sc_law_draw (fun vs H Q E h => ?_) (fun cdv A outer s H vs Q E hr h => ?_)
  · obtain ⟨d, n, many, rfl, _⟩ := h
    rfl
  · obtain ⟨d, n, many, rfl, ⟨a, g, k, m, h1, a0, k0, k1, m0, m1⟩, hn, hm0, hm1, q⟩ := h
    refine ⟨_, (pss_cons (ps_asg (pe_op op_add (pe_ix ix_list (pv 0) pe_int (fun _ _ => rfl)) pe_int) (pg_sub (pv 0) pe_int set_list))
      (pss_cut (ps_if (PW.pt (pw_and (pt_cmpR op_eq (pe_ix ix_list (pv 0) pe_int (fun _ _ => rfl)) pe_int (nomark _)) (pw_and1 (pt_cmpR op_gt (pe_ix ix_list (pv 0) pe_int (fun _ _ => rfl)) pe_int (nomark _)))))
        (pss_cons (ps_set (i := 2) sc_law_draw.nd rfl (.inl rfl) (pe_op op_mod (pe_ix ix_list (pv 0) pe_int (fun _ _ => rfl)) (pv 1)))
        (pss_cons (ps_asg (pe_op op_fdivW (pe_ix ix_list (pv 0) pe_int (fun _ _ => rfl)) (pv 1)) (pg_sub (pv 0) pe_int set_list))
        (pss_one (ps_ret (pv 2)))))
        pss_nil)
      (pss_cons (ps_set (i := 3) sc_law_draw.nd rfl (.inl rfl) (pe_op op_mod (pe_op op_mul (pe_op op_add (pe_op op_add (pe_ix ix_list (pv 0) pe_int (fun _ _ => rfl)) (pe_op op_mul pe_int (pe_ix ix_list (pv 0) pe_int (fun _ _ => rfl)))) pe_int) pe_int) pe_int))
      (pss_cons (ps_set (i := 3) sc_law_draw.nd rfl (.inl rfl) (pe_op op_mod (pe_op op_mul (pe_op op_mod (pe_op op_mul (pv 3) (pv 3)) pe_int) pe_int) pe_int))
      (pss_one (ps_ret (pe_op op_mod (pe_op op_fdiv (pv 3) pe_int) (pv 1)))))))), ?_⟩
    refine ⟨_, rfl, d, _, 2, _, rfl, rfl, SqL.of h1, rfl, k, 1, rfl, rfl, ?_⟩
    refine ⟨_, rfl, d, _, 2, 2, rfl, rfl, h1, rfl, ?_⟩
    have h2 : (upd H d (.lst [.int a, .int g, .int (k + 1), .int m])) d = some (.lst [.int a, .int g, .int (k + 1), .int m]) := upd_same
    have S1 : SmX d H (upd H d (.lst [.int a, .int g, .int (k + 1), .int m])) := (SmX.refl H).mut
    refine ⟨fun σ' H' => σ' = [some (.ref d), some (.int many), none, none] ∧ SmX d H H' ∧ H' d = some (.lst [.int a, .int g, .int (k + 1), .int m]), ?_, fun σ' H1 hM => ?_⟩
    · refine ⟨_, rfl, d, _, 1, _, rfl, rfl, SqL.of h2, rfl, rfl, _, rfl, ?_⟩
      refine ite2 (fun e => ?_) (fun e => ⟨rfl, S1, h2⟩)
      refine ⟨_, rfl, d, _, 0, _, rfl, rfl, SqL.of h2, rfl, _, _, rfl, rfl, _, rfl, ?_⟩
      refine ite2 (fun e => ?_) (fun e => ⟨rfl, S1, h2⟩)
      refine ⟨_, rfl, d, _, 0, _, rfl, rfl, SqL.of h2, rfl, _, rfl, _, _, rfl, rfl, hm0, ?_⟩
      refine ⟨_, rfl, d, _, 0, _, rfl, rfl, SqL.of h2, rfl, _, rfl, _, _, rfl, rfl, wide_div (b := 60) hm0 (by omega) (by decide) (by decide), ?_⟩
      refine ⟨_, rfl, d, _, 0, 0, rfl, rfl, h2, rfl, ?_⟩
      refine ⟨_, rfl, ?_⟩
      exact q _ _ (Int.emod_nonneg _ (by omega)) (Int.emod_lt_of_pos _ hm0) S1.mut ⟨a / many, g, k + 1, m, upd_same, Int.ediv_nonneg a0 (by omega), by omega, by omega, m0, m1⟩
    · obtain ⟨rfl, SM, h3⟩ := hM
      refine ⟨_, rfl, d, _, 3, _, rfl, rfl, SqL.of h3, rfl, _, rfl, d, _, 2, _, rfl, rfl, SqL.of h3, rfl, _, _, rfl, rfl, .inl ⟨by omega, by omega⟩, _, _, rfl, rfl, _, _, rfl, rfl, _, _, rfl, rfl, .inl ⟨by omega, by omega⟩, _, _, rfl, rfl, (by show (0 : Int) < _; decide), ?_⟩
      generalize hx : (m + 6997 * (k + 1) + 11) * 48271 % 2147483647 = x
      have x0 : 0 ≤ x := by omega
      have x1 : x < 2147483647 := by omega
      refine ⟨_, rfl, _, rfl, _, _, rfl, rfl, .inl ⟨by omega, by omega⟩, _, _, rfl, rfl, (by show (0 : Int) < _; decide), ?_⟩
      generalize hy : x * x % 2147483629 = y
      have y0 : 0 ≤ y := by omega
      have y1 : y < 2147483629 := by omega
      refine ⟨_, _, rfl, rfl, .inl ⟨by omega, by omega⟩, _, _, rfl, rfl, (by show (0 : Int) < _; decide), ?_⟩
      refine ⟨_, rfl, _, _, rfl, rfl, ⟨by decide, by decide⟩, _, rfl, _, _, rfl, rfl, hm0, ?_⟩
      exact q _ _ (Int.emod_nonneg _ (by omega)) (Int.emod_lt_of_pos _ hm0) SM ⟨a, g, k + 1, m, h3, a0, by omega, by omega, m0, m1⟩
end
abbrev s_law_length : Stmt := topS 20
abbrev N_law_length : List Str := ["seed", "kind"]
theorem sc_law_length : FnScope N_law_length ["seed", "kind"] (defScope s_law_length) := ⟨rfl, rfl, rfl, by decide +kernel, rfl, by decide +kernel, by decide +kernel⟩
section
variable {P : Program} {w : World} {K : PySem.W.Frag} {mg : Str → Option Value} {base : Heap}
def spLength : Sp := fun vs H Q _ => ∃ (d : Addr) (n : Nat) (kind : Int), vs = [.ref d, .int kind] ∧ SeedAt H d n ∧ n < 90000 ∧ 0 ≤ kind ∧ kind < 5 ∧ ∀ (H' : Hp) (r : Int), 1 ≤ r → r ≤ 1000000 → SmX d H H' → SeedAt H' d (n + 3) → Q (.int r) H'
theorem ok_length {f : Addr} {fd : FuncData} (F : Fun K "_law_length" "_law_length" s_law_length f fd) (C_law_draw : Cal P w K mg base 1 "_law_draw" spDraw) : FnOk P w K mg base CX0 2 f fd ["seed", "kind"] spLength := by
  refine F.ok sc_law_length (fun vs H Q E h => ?_) (fun cdv A outer s H vs Q E hr h => ?_)
  · obtain ⟨d, n, kind, rfl, _⟩ := h
    rfl
  · obtain ⟨d, n, kind, rfl, SD, hn, k0, k1, q⟩ := h
    refine ⟨_, (pss_one (ps_ret (pe_ix ix_list (pe_lst (pa_cons pe_int (pa_cons (pe_op op_add pe_int (pe_c C_law_draw hr (by decide) rfl (pa_cons (pv 0) (pa_cons pe_int pa_nil)))) (pa_cons (pe_op op_add pe_int (pe_c C_law_draw hr (by decide) rfl (pa_cons (pv 0) (pa_cons pe_int pa_nil)))) (pa_cons (pe_op op_add pe_int (pe_c C_law_draw hr (by decide) rfl (pa_cons (pv 0) (pa_cons (pe_op op_pow pe_int pe_int) pa_nil)))) (pa_cons pe_int pa_nil)))))) (pv 1) (fun _ _ => rfl)))), ?_⟩
    have e6 : (10 : Int) ^ (6 : Int).toNat = 1000000 := by decide
    refine ⟨_, rfl, d, n, 3, rfl, SD, by omega, by decide, by decide, fun H1 r1 a0 a1 S1 D1 => ⟨_, _, rfl, rfl, ?_⟩⟩
    refine ⟨_, rfl, d, _, 12, rfl, D1, by omega, by decide, by decide, fun H2 r2 b0 b1 S2 D2 => ⟨_, _, rfl, rfl, ?_⟩⟩
    refine ⟨_, rfl, _, _, rfl, rfl, ⟨by decide, by decide, by decide⟩, d, _, _, rfl, D2, by omega, by decide, by decide, fun H3 r3 c0 c1 S3 D3 => ⟨_, _, rfl, rfl, ?_⟩⟩
    refine ⟨(by show 5 ≤ sizeLine; decide), fun p np => ?_⟩
    obtain ⟨v, hv, mv⟩ := atI_in (xs := [V.int 1, .int (1 + r1), .int (1 + r2), .int (1 + r3), .int 2]) k0 (by simpa using k1)
    have hs : ∃ m : Int, v = .int m ∧ 1 ≤ m ∧ m ≤ 1000000 := by
      rw [e6] at c1
      simp only [List.mem_cons, List.not_mem_nil, or_false] at mv
      rcases mv with e | e | e | e | e
      · exact ⟨1, e, by omega, by omega⟩
      · exact ⟨_, e, by omega, by omega⟩
      · exact ⟨_, e, by omega, by omega⟩
      · exact ⟨_, e, by omega, by omega⟩
      · exact ⟨2, e, by omega, by omega⟩
    obtain ⟨m, rfl, m0, m1⟩ := hs
    refine ⟨_, rfl, p, _, kind, _, rfl, rfl, SqL.of upd_same, hv, ?_⟩
    exact q _ m m0 m1 (((S1.trans S2).trans S3).new np) (D3.new np)
end
end Far

namespace Far
open PySem PySem.Spec PyProof.Rows L2
/-! ### t[::-1], t a text -/
def revS (z : Str) : Str := ⟨z.cps.toList.reverse.toArray⟩
def tRevS (te : TE) : TE := fun σ H Q => te σ H fun x H1 => ∃ z, x = .str z ∧ z.length ≤ sizeLine ∧ Q (.str (revS z)) H1
theorem fm_congrS {α β : Type} {f g : α → Option β} : ∀ {l : List α}, (∀ x ∈ l, f x = g x) → l.filterMap f = l.filterMap g
  | [], _ => rfl
  | x :: r, h => by
    rw [List.filterMap_cons, List.filterMap_cons, h x (List.mem_cons_self ..), fm_congrS fun y hy => h y (List.mem_cons_of_mem _ hy)]
theorem back_allS {α : Type} : ∀ (l : List α), (List.range l.length).filterMap (fun m => l[l.length - 1 - m]?) = l.reverse := by
  intro l
  have h := PySem.W.krv_range l.length
  have e : (List.range l.length).filterMap (fun m => l[l.length - 1 - m]?) = ((List.range l.length).map fun k => l.length - 1 - k).filterMap (fun j => l[j]?) := by
    rw [List.filterMap_map]
    rfl
  rw [e, h, List.filterMap_reverse]
  congr 1
  have := PySem.W.krv_all l.toArray
  simpa using this
theorem revS_pick (z : Str) : (⟨((Builtin.Str.strSliceIndices none none (-1) z.length).filterMap (z.cps[·]?)).toArray⟩ : Str) = revS z := by
  unfold revS
  rw [picked_rev, List.filterMap_map, ← back_allS z.cps.toList]
  congr 2
  show _ = (List.range z.cps.toList.length).filterMap _
  rw [Array.length_toList]
  refine fm_congrS fun m hm => ?_
  rw [Array.getElem?_toList]
  rfl
theorem pe_revS {X : Cx} {e : Expr} {te : TE} {k : Nat} {p1 p2 p3 pos : Pos} (he : PE X e te) : PE X (.Subscript e (.Slice none none (some (.UnaryOp .USub (.Constant (.int 1) k p1) p2)) p3) pos) (tRevS te) := by
  refine ⟨fun pins s σ H Q I h => ?_⟩
  refine Subscript_ (thn (he.run pins s σ H _ I h) fun v s1 ⟨x, H1, I1, r1, q1⟩ => ?_)
  obtain ⟨z, ex, hz, q⟩ := q1
  subst ex
  obtain ⟨t, rfl⟩ := r1
  have hst : PO X (some (.UnaryOp .USub (.Constant (.int 1) k p1) p2)) (tPart (tUn (rU fun i => .int (-i)) (tC (.int 1)))) := po_some (pe_un un_neg pe_int)
  refine wpAny_Slice (thn (po_none.run pins s1 σ H1 (fun o H2 => o = none ∧ H2 = H1) I1 ⟨rfl, rfl⟩) fun vl s2 ⟨l, H2, I2, pl, el, e2⟩ => ?_)
  subst el e2
  refine thn (po_none.run pins s2 σ H2 (fun o H3 => o = none ∧ H3 = H2) I2 ⟨rfl, rfl⟩) fun vu s3 ⟨u, H3, I3, pu, eu, e3⟩ => ?_
  subst eu e3
  refine thn (hst.run pins s3 σ H3 (fun o H4 => o = some (-1) ∧ H4 = H3) I3 ⟨1, rfl, -1, rfl, rfl, rfl⟩) fun vs s4 ⟨o, H4, I4, ps, eo, e4⟩ => ?_
  subst eo e4
  have I5 : Inv X pins σ H4 { s4 with heap := s4.heap.push { cls := .type "slice", data := .fields #[vl, vu, vs] } } := I4.kept (t' := s4.toks) fun b ob q => Heap.get?_push_of_some _ q
  obtain ⟨l, rfl, hl⟩ := IsPart.raw pl
  obtain ⟨u, rfl, hu⟩ := IsPart.raw pu
  obtain ⟨y, rfl, hy⟩ := IsPart.raw ps
  show wpAny (model X.prog X.w) X.A (subscriptTail e (.Slice none none (some (.UnaryOp .USub (.Constant (.int 1) k p1) p2)) p3) (.str z t) (.ref s4.heap.objs.size)) (EP X pins σ Q) X.xe _
  refine tail_any (ops := [.str z t, .ref s4.heap.objs.size]) (typeIs_str _ _ _) (F.slot_str_getitem.lookup) ?_ (by with_unfolding_all rfl)
  have hl' : l = none := by cases l with
    | none => rfl
    | some _ => cases hl
  have hu' : u = none := by cases u with
    | none => rfl
    | some _ => cases hu
  obtain ⟨⟨y1, y2⟩, rfl⟩ : ∃ p, y = some p := by cases y with
    | none => cases hy
    | some p => exact ⟨p, rfl⟩
  have hy' : y1 = -1 := by
    have := Option.some.inj hy
    first | exact this | exact this.symm
  subst hl' hu' hy'
  refine wpAny_getItem_str_slice (l := none) (u := none) (st := some (-1, y2)) ⟨_, Heap.get?_push_size _ rfl, rfl, rfl⟩ rfl ?_
  show Made.post (if ((-1 : Int) == 1 && (Builtin.Str.strSliceIndices none none (-1) z.length).length == z.length) = true then Made.val (.str z t)
    else Made.str ⟨((Builtin.Str.strSliceIndices none none (-1) z.length).filterMap (z.cps[·]?)).toArray⟩) (EP X pins σ Q) _
  rw [if_neg (by simp), revS_pick]
  refine ⟨?_, .str _, H4, I5.tok _, ⟨_, rfl⟩, q⟩
  show z.cps.toList.reverse.toArray.size ≤ sizeLine
  rw [List.size_toArray, List.length_reverse, Array.length_toList]
  exact hz
end Far

namespace Far
open PySem PySem.Spec PyProof.Rows L2
open C8 (pss_cut tCut)
open SX (S)
/-! ### lists without an item twice -/
theorem nodup_sub_len {α : Type} [DecidableEq α] : ∀ (l m : List α), l.Nodup → (∀ x ∈ l, x ∈ m) → l.length ≤ m.length
  | [], _, _, _ => Nat.zero_le _
  | a :: r, m, h, hs => by
    obtain ⟨h1, h2⟩ := List.nodup_cons.mp h
    have ha : a ∈ m := hs a (List.mem_cons.mpr (.inl rfl))
    have ih := nodup_sub_len r (m.erase a) h2 fun x hx => by
      have ne : x ≠ a := fun e => h1 (e ▸ hx)
      exact (List.mem_erase_of_ne ne).mpr (hs x (List.mem_cons.mpr (.inr hx)))
    have hl := List.length_erase_of_mem ha
    have hp : 0 < m.length := List.length_pos_of_mem ha
    rw [List.length_cons]
    omega
theorem nd_snoc' {α : Type} {l : List α} {x : α} (h : l.Nodup) (hx : x ∉ l) : (l ++ [x]).Nodup := by
  rw [List.nodup_append]
  exact ⟨h, by simp, fun a ha b hb e => hx (by rw [← List.mem_singleton.mp hb, ← e]; exact ha)⟩

/-! ### texts as data -/
theorem strOk_S {l : List Nat} (h : NameOk l) : PyData.strOk (S l) = true := by
  show (l.toArray.all (· < 0x110000)) = true
  rw [← Array.all_toList, List.all_eq_true]
  intro c hc
  have := h.2.2 c hc
  exact decide_eq_true (by omega)
theorem inV_strs (l : List Nat) (ls : List (List Nat)) : inV (.str (S l)) ((ls.map S).map V.str) = decide (l ∈ ls) := by
  induction ls with
  | nil => rfl
  | cons a r ih =>
    show (S a == S l || inV (.str (S l)) ((r.map S).map V.str)) = _
    rw [ih, SX.S_beq_eq]
    by_cases e : a = l
    · subst e
      simp
    · have : l ≠ a := fun z => e z.symm
      simp [e, this]
theorem flat_strs (ls : List (List Nat)) : ((ls.map S).map V.str).all flatV = true := by
  induction ls with
  | nil => rfl
  | cons a r ih => exact ih
theorem strs_at {ls : List (List Nat)} {v : V} (h : v ∈ (ls.map S).map V.str) : ∃ l ∈ ls, v = .str (S l) := by
  obtain ⟨z, hz, rfl⟩ := List.mem_map.mp h
  obtain ⟨l, hl, rfl⟩ := List.mem_map.mp hz
  exact ⟨l, hl, rfl⟩
theorem dp_strs (K : PySem.W.Frag) (H : Hp) : ∀ ls : List (List Nat), DpAll K H ((ls.map S).map V.str) (ls.map fun l => PyData.str (S l))
  | [] => .nil
  | l :: r => .cons (.str _) (dp_strs K H r)
theorem lay_strs : ∀ {ls : List (List Nat)}, (∀ l ∈ ls, NameOk l) → PyData.canLayAll0 (ls.map fun l => PyData.str (S l)) = true
  | [], _ => rfl
  | l :: r, h => by
    show (PyData.strOk (S l) && PyData.canLayAll0 (r.map fun l => PyData.str (S l))) = true
    rw [strOk_S (h l (List.mem_cons.mpr (.inl rfl))), lay_strs fun x hx => h x (List.mem_cons.mpr (.inr hx))]
    rfl
theorem dep_strs : ∀ ls : List (List Nat), PyData.depthAll (ls.map fun l => PyData.str (S l)) = 0
  | [] => rfl
  | l :: r => by
    show max 0 (PyData.depthAll (r.map fun l => PyData.str (S l))) = 0
    rw [dep_strs r]
    rfl
theorem shaped_strs {ls : List (List Nat)} (h : ∀ l ∈ ls, NameOk l) : SeqAt.shaped (.list (ls.map fun l => PyData.str (S l))) = true := by
  show (PyData.canLayAll0 (ls.map fun l => PyData.str (S l)) && decide (PyData.depthAll (ls.map fun l => PyData.str (S l)) + 1 ≤ 64)) = true
  rw [lay_strs h, dep_strs]
  rfl

/-! ### names made otherwise -/
abbrev abc : Str := "abcdefghijklmnopqrstuvwxyz"
theorem abc_at : ∀ k : _root_.Fin 26, atI abc.cps.toList ((k.val : Nat) : Int) = some (97 + k.val) := by decide +kernel
theorem abc_ok : ∀ c ∈ abc.cps.toList, 97 ≤ c ∧ c ≤ 122 := by decide +kernel
theorem abc_len : abc.cps.toList.length = 26 := by decide +kernel
def cand (j : Nat) : List Nat := [97 + j / 26] ++ [97 + j % 26]
theorem cand_inj {i j : Nat} (h : cand i = cand j) : i = j := by
  unfold cand at h
  simp at h
  omega
theorem cand_ok {j : Nat} (hj : j < 600) : NameOk (cand j) := by
  refine ⟨by simp [cand], by simp [cand], fun c hc => ?_⟩
  unfold cand at hc
  simp at hc
  omega
/-- of the names tried so far all but the last are found already -/
structure Tried (ls : List (List Nat)) (t : Nat) (l : List Nat) : Prop where
  ok : NameOk l
  last : t ≠ 0 → l = cand (t - 1)
  old : ∀ j, j + 1 < t → cand j ∈ ls
theorem Tried.lt {ls : List (List Nat)} {t : Nat} {l : List Nat} (h : Tried ls t l) (hl : l ∈ ls) : t ≤ ls.length := by
  have sub : ∀ x ∈ (List.range t).map cand, x ∈ ls := fun x hx => by
    obtain ⟨j, hj, rfl⟩ := List.mem_map.mp hx
    have hj := List.mem_range.mp hj
    by_cases e : j + 1 < t
    · exact h.old j e
    · have e2 : j = t - 1 := by omega
      rw [e2, ← h.last (by omega)]
      exact hl
  have nd : ((List.range t).map cand).Nodup := by
    rw [List.Nodup, List.pairwise_map]
    exact (List.nodup_range (n := t)).imp fun ne e => ne (cand_inj e)
  have := nodup_sub_len _ ls nd sub
  rw [List.length_map, List.length_range] at this
  exact this
theorem Tried.next {ls : List (List Nat)} {t : Nat} {l : List Nat} (h : Tried ls t l) (hl : l ∈ ls) (h30 : ls.length < 100) : Tried ls (t + 1) (cand t) := by
  have hlt := h.lt hl
  refine ⟨cand_ok (by omega), fun _ => rfl, fun j hj => ?_⟩
  by_cases e : j + 1 < t
  · exact h.old j e
  · have e2 : j = t - 1 := by omega
    rw [e2, ← h.last (by omega)]
    exact hl
theorem revS_S (l : List Nat) : revS (S l) = S l.reverse := by
  show (⟨(l.toArray.toList.reverse).toArray⟩ : Str) = _
  rw [List.toList_toArray]
def NamesAt (H : Hp) (p : Addr) (ls : List (List Nat)) : Prop := H p = some (.lst ((ls.map S).map V.str))
end Far

namespace Far
open PySem PySem.Spec PyProof.Rows L2
open C8 (pss_cut tCut)
open SX (S)
abbrev s_law_name : Stmt := topS 19
abbrev N_law_name : List Str := ["seed", "names", "letters", "many", "name", "near", "at", "otherwise", "count", "k"]
theorem sc_law_name : FnScope N_law_name ["seed", "names"] (defScope s_law_name) := ⟨rfl, rfl, rfl, by decide +kernel, rfl, by decide +kernel, by decide +kernel⟩
section
variable {P : Program} {w : World} {K : PySem.W.Frag} {mg : Str → Option Value} {base : Heap}
def spName : Sp := fun vs H Q _ => ∃ (d a : Addr) (n : Nat) (ls : List (List Nat)), vs = [.ref d, .ref a] ∧ SeedAt H d n ∧ n < 80000 ∧ a ≠ d ∧ NamesAt H a ls ∧ ls.length < 100 ∧ (∀ l ∈ ls, NameOk l) ∧ ∀ (H' : Hp) (l : List Nat), NameOk l → l ∉ ls → SmX d H H' → SeedAt H' d (n + 20) → Q (.str (S l)) H'
theorem ok_name {f : Addr} {fd : FuncData} (F : Fun K "_law_name" "_law_name" s_law_name f fd) (T : TxtG mg) (C_law_draw : Cal P w K mg base 1 "_law_draw" spDraw) : FnOk P w K mg base CX0 2 f fd ["seed", "names"] spName := by
  refine F.ok sc_law_name (fun vs H Q E h => ?_) (fun cdv A outer s H vs Q E hr h => ?_)
  · obtain ⟨d, a, n, ls, rfl, _⟩ := h
    rfl
  · obtain ⟨d, a, n, ls, rfl, hD, hn, nad, hN, hl, ok, q⟩ := h
    refine ⟨_, (pss_cons (ps_set (i := 2) sc_law_name.nd rfl (.inr rfl) pe_str)
      (pss_cons (ps_set (i := 3) sc_law_name.nd rfl (.inl rfl) (pe_op op_add pe_int (pe_c C_law_draw hr (by decide) rfl (pa_cons (pv 0) (pa_cons (pe_ix ix_list (pe_lst (pa_cons pe_int (pa_cons pe_int (pa_cons pe_int pa_nil)))) (pe_c C_law_draw hr (by decide) rfl (pa_cons (pv 0) (pa_cons pe_int pa_nil))) (fun _ _ => rfl)) pa_nil)))))
      (pss_cons (ps_set (i := 4) sc_law_name.nd rfl (.inl rfl) (pe_join pe_str (pe_lc (own := [("k", 9)]) (g := gName 9) (tt := tYes) rfl sc_law_name.nd (pi_range1 (by rfl) T.range (pa_cons (pv 3) pa_nil)) (blkOk_by (N := N_law_name) (sc := defScope s_law_name) (by decide +kernel)) (fun _ _ _ _ _ => pg_name (i := 9) sc_law_name.nd rfl (Or.inl rfl)) (fun _ _ _ _ _ => pts_nil) (fun _ _ _ _ _ => (pe_ix ix_str (pv 2) (pe_c C_law_draw hr (by decide) rfl (pa_cons (pv 0) (pa_cons pe_int pa_nil))) (fun _ _ => rfl))))))
      (pss_cut (ps_if (PW.pt (pw_and (pt_cmpR (op_neD (hd_of hr (by decide))) (pv 1) (pe_lst pa_nil) (nomark _)) (pw_and1 (pt_cmpR op_eq (pe_c C_law_draw hr (by decide) rfl (pa_cons (pv 0) (pa_cons pe_int pa_nil))) pe_int (nomark _)))))
        (pss_cons (ps_set (i := 5) sc_law_name.nd rfl (.inl rfl) (pe_ix ix_list (pv 1) (pe_c C_law_draw hr (by decide) rfl (pa_cons (pv 0) (pa_cons (pe_callB call_len_seq (by rfl) T.len bt_len (pa_cons (pv 1) pa_nil)) pa_nil))) (fun _ _ => rfl)))
        (pss_cons (ps_set (i := 6) sc_law_name.nd rfl (.inl rfl) (pe_c C_law_draw hr (by decide) rfl (pa_cons (pv 0) (pa_cons (pe_callB call_len (by rfl) T.len bt_len (pa_cons (pv 5) pa_nil)) pa_nil))))
        (pss_cons (ps_set (i := 7) sc_law_name.nd rfl (.inl rfl) (pe_op op_add_str (pe_op op_add_str (pe_slice C8.sl_txt (pv 5) po_none (po_some (pv 6))) (pe_ix ix_str (pv 2) (pe_c C_law_draw hr (by decide) rfl (pa_cons (pv 0) (pa_cons pe_int pa_nil))) (fun _ _ => rfl))) (pe_slice C8.sl_txt (pv 5) (po_some (pe_op op_add (pv 6) pe_int)) po_none)))
        (pss_one (ps_set (i := 4) sc_law_name.nd rfl (.inl rfl) (pe_ix ix_list (pe_lst (pa_cons (pv 7) (pa_cons (pe_revS (pv 5)) (pa_cons (pe_slice C8.sl_txt (pe_op op_add_str (pv 5) (pv 4)) po_none (po_some pe_int)) pa_nil)))) (pe_c C_law_draw hr (by decide) rfl (pa_cons (pv 0) (pa_cons pe_int pa_nil))) (fun _ _ => rfl)))))))
        pss_nil)
      (pss_cons (ps_set (i := 8) sc_law_name.nd rfl (.inl rfl) pe_int)
      (pss_cut (ps_while PassesOwn.never (pt_cmpR op_in_seq (pv 4) (pv 1) rfl)
        (pss_cons (ps_set (i := 4) sc_law_name.nd rfl (.inl rfl) (pe_op op_add_str (pe_ix ix_str (pv 2) (pe_op op_fdiv (pv 8) pe_int) (fun _ _ => rfl)) (pe_ix ix_str (pv 2) (pe_op op_mod (pv 8) pe_int) (fun _ _ => rfl))))
        (pss_one (ps_set (i := 8) sc_law_name.nd rfl (.inl rfl) (pe_op op_add (pv 8) pe_int)))))
      (pss_one (ps_ret (pv 4))))))))), ?_⟩
    -- many
    refine ⟨_, rfl, (by show 3 ≤ sizeLine; decide), fun p np => ?_⟩
    have npd : p ≠ d := hD.nd np
    refine ⟨_, rfl, d, n, 3, rfl, hD.new np, by omega, by decide, by decide, fun H1 r r0 r1 S1 D1 => ?_⟩
    have hp : H1 p = some (.lst [.int 1, .int 2, .int 8]) := S1 p _ npd upd_same
    obtain ⟨v, hv, mv⟩ := atI_in (xs := [V.int 1, .int 2, .int 8]) r0 (by simpa using r1)
    have hs : ∃ sz : Int, v = .int sz ∧ 1 ≤ sz ∧ sz ≤ 8 := by
      simp only [List.mem_cons, List.not_mem_nil, or_false] at mv
      rcases mv with e | e | e <;> exact ⟨_, e, by omega, by omega⟩
    obtain ⟨sz, rfl, s1, s8⟩ := hs
    refine ⟨p, _, r, _, rfl, rfl, SqL.of hp, hv, ?_⟩
    have S01 : SmX d H H1 := fun b o nb hb => S1 b o nb (by rw [upd_ne (ne_of_none hb np)]; exact hb)
    refine ⟨d, n + 1, sz, rfl, D1, by omega, by omega, by omega, fun H2 r2 a0 a1 S2 D2 => ⟨_, _, rfl, rfl, ?_⟩⟩
    have S02 := S01.trans S2
    -- name
    refine ⟨⟨_, rfl⟩, _, rfl, 1 + r2, rfl, by omega, by omega, fun D nD => ?_⟩
    have nDd : D ≠ d := D2.nd nD
    refine lc_range (lo := 0) (n := (1 + r2).toNat) (fun i H' => ∃ cs : List Nat, cs.length = i ∧ (∀ c ∈ cs, 97 ≤ c ∧ c ≤ 122) ∧ H' D = some (.lst ((cs.map fun c => S [c]).map V.str)) ∧ SmX d H H' ∧ SeedAt H' d (n + 2 + i)) ⟨[], rfl, by simp, upd_same, S02.new nD, D2.new nD⟩ (fun i H' hi hP => ?_) (fun H' hP => ?_)
    · obtain ⟨cs, hlc, hc, hD', SM, DD⟩ := hP
      refine ⟨rfl, _, rfl, _, rfl, d, _, 26, rfl, DD, by omega, by decide, by decide, fun H4 r4 r40 r41 S4 D4 => ?_⟩
      obtain ⟨v, hv, mv⟩ := atI_in (xs := abc.cps.toList) r40 (by rw [abc_len]; exact r41)
      refine ⟨abc, r4, v, rfl, rfl, by decide, hv, ?_⟩
      refine ⟨_, S4 D _ nDd hD', by rw [List.length_map, List.length_map]; exact sz_lt (by omega), cs ++ [v], by simp [hlc], fun c hc' => ?_, ?_, (SM.trans S4).put ?_, ?_⟩
      · rcases List.mem_append.mp hc' with z | z
        · exact hc c z
        · rw [List.mem_singleton.mp z]
          exact abc_ok v mv
      · rw [upd_same, List.map_append, List.map_append]
        rfl
      · exact SmX.free S02 nD nDd
      · exact D4.put nDd
    · obtain ⟨cs, hlc, hc, hD', SM, DD⟩ := hP
      refine ⟨_, D, cs.map (fun c => S [c]), rfl, rfl, .inl (SqL.of hD'), ?_, ?_⟩
      · rw [one_sum']
        have : ((("" : Str)).length) = 0 := rfl
        rw [this, List.length_map]
        omega
      · have e : Txt.join ("" : Str) (cs.map fun c => S [c]) = S cs := by
          have := SX.join_S [] (cs.map fun c => [c])
          rw [List.map_map] at this
          rw [join_none, flat_one] at this
          exact this
        rw [e]
        have cok : NameOk cs := ⟨by omega, by omega, hc⟩
        have DD := DD.mono (m := n + 10) (by omega)
        clear hlc hD'
        -- the if
        refine ⟨fun σ1 H1 => ∃ (l : List Nat) (x5 x6 x7 : Option V), σ1 = [some (.ref d), some (.ref a), some (.str abc), some (.int (1 + r2)), some (.str (S l)), x5, x6, x7, none, none] ∧ NameOk l ∧ SmX d H H1 ∧ SeedAt H1 d (n + 20), ?_, fun σ1 H1 hM => ?_⟩
        · have hN1 : NamesAt H' a ls := SM a _ nad hN
          refine ⟨_, rfl, Nat.zero_le _, fun p2 np2 => ?_⟩
          have hN2 : NamesAt (upd H' p2 (.lst [])) a ls := by
            unfold NamesAt
            rw [upd_ne (ne_of_none hN1 np2)]
            exact hN1
          have D2 := DD.new (o := .lst []) np2
          have SM2 : SmX d H (upd H' p2 (.lst [])) := SM.new np2
          refine ⟨_, _, .lst (SqL.of hN2) (dp_strs _ _ ls), .lst (SqL.of upd_same) .nil, shaped_strs ok, rfl, _, rfl, ?_⟩
          refine ite2 (fun e1 => ?_) (fun e1 => ?_)
          · have pos : 0 < ls.length := by
              cases ls with
              | nil => exact absurd e1 (by decide)
              | cons a r => exact Nat.succ_pos _
            refine ⟨_, rfl, d, _, 3, rfl, D2, by omega, by decide, by decide, fun H3 r r0 r1 S3 D3 => ?_⟩
            have hN3 : NamesAt H3 a ls := S3 a _ nad hN2
            have SM3 : SmX d H H3 := SM2.trans S3
            refine ⟨rfl, _, rfl, ite2 (fun e2 => ?_) (fun e2 => ?_)⟩
            · -- near
              refine ⟨_, rfl, _, rfl, _, rfl, a, _, rfl, .inl (SqL.of hN3), d, _, _, rfl, D3, by omega, ?_, ?_, fun H4 r4 r40 r41 S4 D4 => ?_⟩
              · rw [List.length_map, List.length_map]
                omega
              · rw [List.length_map, List.length_map]
                omega
              have hN4 : NamesAt H4 a ls := S4 a _ nad hN3
              obtain ⟨v, hv, mv⟩ := atI_in r40 r41
              obtain ⟨l2, hl2, rfl⟩ := strs_at mv
              have ok2 := ok l2 hl2
              have h8 := ok2.2.1
              have h1 := ok2.1
              have c8 := cok.2.1
              refine ⟨a, _, r4, _, rfl, rfl, SqL.of hN4, hv, ?_⟩
              -- at
              refine ⟨_, rfl, _, rfl, .str (S l2), l2.length, rfl, ⟨by rw [SX.S_len]; exact sz_le (by omega), (SX.S_len _).symm⟩, d, _, _, rfl, D4, by omega, by omega, by omega, fun H5 r5 r50 r51 S5 D5 => ?_⟩
              -- otherwise
              refine ⟨_, rfl, _, rfl, r5, rfl, S l2, rfl, by rw [SX.S_len]; exact sz_le (by omega), ?_⟩
              refine ⟨_, rfl, _, rfl, d, _, 26, rfl, D5, by omega, by decide, by decide, fun H6 r6 r60 r61 S6 D6 => ?_⟩
              obtain ⟨sg, hsg, msg⟩ := atI_in (xs := abc.cps.toList) r60 (by rw [abc_len]; exact r61)
              have oks := abc_ok sg msg
              refine ⟨abc, r6, sg, rfl, rfl, by decide, hsg, ?_⟩
              have SM6 : SmX d H H6 := ((SM3.trans S4).trans S5).trans S6
              refine ⟨S (l2.take r5.toNat), S [sg], congrArg V.str (SX.slice_to r50), rfl, by rw [SX.S_len, SX.S_len, List.length_take, List.length_singleton]; exact sz_le (by omega), ?_⟩
              refine ⟨_, rfl, _, rfl, r5, 1, rfl, rfl, r5 + 1, rfl, S l2, rfl, by rw [SX.S_len]; exact sz_le (by omega), S (l2.take r5.toNat ++ [sg]), S (l2.drop (r5 + 1).toNat), congrArg V.str (SX.S_cat _ _), congrArg V.str (SX.slice_from (by omega)), by rw [SX.S_len, SX.S_len, List.length_append, List.length_take, List.length_drop, List.length_singleton]; exact sz_le (by omega), ?_⟩
              -- the three
              refine ⟨_, rfl, _, rfl, S l2, rfl, by rw [SX.S_len]; exact sz_le (by omega), ?_⟩
              refine ⟨_, rfl, _, rfl, S l2, S cs, rfl, rfl, by rw [SX.S_len, SX.S_len]; exact sz_le (by omega), 8, rfl, S (l2 ++ cs), congrArg V.str (SX.S_cat _ _), by rw [SX.S_len, List.length_append]; exact sz_le (by omega), by show 3 ≤ sizeLine; decide, fun p7 np7 => ?_⟩
              have np7d := D6.nd np7
              have D6' := D6.new (o := .lst [V.str (S (l2.take r5.toNat ++ [sg]) ++ S (l2.drop (r5 + 1).toNat)), .str (revS (S l2)), .str (Txt.slice (S (l2 ++ cs)) none (some 8))]) np7
              refine ⟨_, rfl, d, _, 3, rfl, D6', by omega, by decide, by decide, fun H7 r7 r70 r71 S7 D7 => ?_⟩
              have h7 := S7 p7 _ np7d upd_same
              have SM7 : SmX d H H7 := (SM6.new np7).trans S7
              obtain ⟨v, hv, mv⟩ := atI_in (xs := [V.str (S (l2.take r5.toNat ++ [sg]) ++ S (l2.drop (r5 + 1).toNat)), .str (revS (S l2)), .str (Txt.slice (S (l2 ++ cs)) none (some 8))]) r70 (by simpa using r71)
              have hs : ∃ l3 : List Nat, v = .str (S l3) ∧ NameOk l3 := by
                simp only [List.mem_cons, List.not_mem_nil, or_false] at mv
                rcases mv with e | e | e
                · refine ⟨l2.take r5.toNat ++ [sg] ++ l2.drop (r5 + 1).toNat, by rw [e, SX.S_cat], ?_, ?_, fun x hx => ?_⟩
                  · simp
                    omega
                  · simp
                    omega
                  · rcases List.mem_append.mp hx with z | z
                    · rcases List.mem_append.mp z with z | z
                      · exact ok2.2.2 x (List.mem_of_mem_take z)
                      · rw [List.mem_singleton.mp z]
                        exact oks
                    · exact ok2.2.2 x (List.mem_of_mem_drop z)
                · refine ⟨l2.reverse, by rw [e, revS_S], ?_, ?_, fun x hx => ok2.2.2 x (List.mem_reverse.mp hx)⟩
                  · rw [List.length_reverse]
                    omega
                  · rw [List.length_reverse]
                    omega
                · refine ⟨(l2 ++ cs).take 8, by rw [e, SX.slice_to (by decide)]; rfl, ?_, ?_, fun x hx => ?_⟩
                  · rw [List.length_take, List.length_append]
                    omega
                  · rw [List.length_take]
                    omega
                  · rcases List.mem_append.mp (List.mem_of_mem_take hx) with z | z
                    · exact ok2.2.2 x z
                    · exact hc x z
              obtain ⟨l3, rfl, ok3⟩ := hs
              refine ⟨p7, _, r7, _, rfl, rfl, SqL.of h7, hv, ?_⟩
              exact ⟨l3, _, _, _, rfl, ok3, SM7, D7.mono (by omega)⟩
            · exact ⟨cs, _, _, _, rfl, cok, SM3, D3.mono (by omega)⟩
          · exact ⟨cs, _, _, _, rfl, cok, SM2, D2.mono (by omega)⟩
        · -- the loop
          obtain ⟨l, x5, x6, x7, rfl, lok, SM1, DD1⟩ := hM
          have hN1 : NamesAt H1 a ls := SM1 a _ nad hN
          refine ⟨fun σ2 H2 => ∃ (l : List Nat) (x8 : Option V), σ2 = [some (.ref d), some (.ref a), some (.str abc), some (.int (1 + r2)), some (.str (S l)), x5, x6, x7, x8, none] ∧ NameOk l ∧ l ∉ ls ∧ H2 = H1, ?_, fun σ2 H2 hM => ?_⟩
          · refine ⟨fun m σ2 H2 => ∃ (l : List Nat) (t : Nat), σ2 = [some (.ref d), some (.ref a), some (.str abc), some (.int (1 + r2)), some (.str (S l)), x5, x6, x7, some (.int t), none] ∧ H2 = H1 ∧ Tried ls t l ∧ t + m = 200, ⟨200, l, 0, rfl, rfl, ⟨lok, fun z => absurd rfl z, fun j hj => absurd hj (by omega)⟩, rfl⟩, ?_⟩
            rintro m' σ2 H4 ⟨l, t, rfl, rfl, tr, em⟩
            refine ⟨_, rfl, _, rfl, a, _, rfl, .inl (SqL.of hN1), rfl, flat_strs ls, _, rfl, ?_⟩
            rw [inV_strs]
            refine ite2 (fun e2 => ?_) (fun e2 => ?_)
            · have hin : l ∈ ls := of_decide_eq_true e2
              have tl := tr.lt hin
              have nx := tr.next hin (by omega)
              refine ⟨fun σ' H'' => ∃ (l : List Nat) (t' : Nat), σ' = [some (.ref d), some (.ref a), some (.str abc), some (.int (1 + r2)), some (.str (S l)), x5, x6, x7, some (.int t'), none] ∧ H'' = H4 ∧ Tried ls t' l ∧ t' = t + 1, ?_, ?_⟩
              · rintro σ' H'' ⟨l', t', e1, e2', e3, e4⟩
                exact ⟨m' - 1, by omega, l', t', e1, e2', e3, by omega⟩
              have et : (t : Int) / 26 = (((t / 26 : Nat)) : Int) := by omega
              have em' : (t : Int) % 26 = (((t % 26 : Nat)) : Int) := by omega
              have a1 : atI abc.cps.toList ((t : Int) / 26) = some (97 + t / 26) := by
                rw [et]
                exact abc_at ⟨t / 26, by omega⟩
              have a2 : atI abc.cps.toList ((t : Int) % 26) = some (97 + t % 26) := by
                rw [em']
                exact abc_at ⟨t % 26, by omega⟩
              refine ⟨_, rfl, _, rfl, _, _, rfl, rfl, ⟨by decide, by decide⟩, abc, (t : Int) / 26, _, rfl, rfl, by decide, a1, ?_⟩
              refine ⟨_, rfl, _, rfl, _, _, rfl, rfl, (by show (0 : Int) < _; decide), abc, (t : Int) % 26, _, rfl, rfl, by decide, a2, ?_⟩
              refine ⟨S [97 + t / 26], S [97 + t % 26], rfl, rfl, by rw [SX.S_len, SX.S_len]; exact sz_le (by simp), ?_⟩
              refine ⟨_, rfl, _, _, rfl, rfl, ?_⟩
              refine ⟨cand t, t + 1, ?_, rfl, nx, rfl⟩
              show [some (V.ref d), some (V.ref a), some (V.str abc), some (V.int (1 + r2)), some (V.str (S [97 + t / 26] ++ S [97 + t % 26])), x5, x6, x7, some (V.int ((t : Int) + 1)), none] = _
              rw [SX.S_cat]
              rfl
            · exact ⟨l, _, rfl, tr.ok, fun z => e2 (decide_eq_true z), rfl⟩
          · obtain ⟨l, x8, rfl, lok, nin, rfl⟩ := hM
            exact ⟨_, rfl, q _ l lok nin SM1 DD1⟩
end
end Far

namespace Far
open PySem PySem.Spec PyProof.Rows L2
/-! ### xs[::e], xs a list, e tells 1 or -1 -/
def tStepL (K : PySem.W.Frag) (te ts : TE) : TE := fun σ H Q => te σ H fun x H1 => tPart ts σ H1 fun o H2 => ∃ a xs i, x = .ref a ∧ o = some i ∧ (i = 1 ∨ i = -1) ∧ SqL K H2 a xs ∧ ∀ p, H2 p = none → Q (.ref p) (upd H2 p (.lst (if i = 1 then xs else xs.reverse)))
theorem range_some {α : Type} : ∀ (l : List α), (List.range l.length).filterMap (fun m => l[m]?) = l
  | [] => rfl
  | a :: r => by
    rw [List.length_cons, List.range_succ_eq_map, List.filterMap_cons]
    show a :: ((List.range r.length).map Nat.succ).filterMap _ = _
    rw [List.filterMap_map]
    congr 1
    exact range_some r
theorem pick_one (items : Array Value) : slicePick items none none (some 1) = items := by
  have h := slicePick_cut items.toList none none
  have e : slicePick items none none (some 1) = slicePick items none none none := by rfl
  rw [e]
  rw [Array.toArray_toList] at h
  rw [h]
  have e1 : HT.sIx items.toList.length items.toList.length none = items.toList.length := rfl
  have e2 : HT.sIx items.toList.length 0 none = 0 := rfl
  rw [e1, e2, List.drop_zero, Nat.sub_zero, List.take_length, Array.toArray_toList]
theorem pe_stepL {X : Cx} {e st : Expr} {te ts : TE} {p3 pos : Pos} (he : PE X e te) (hs : PE X st ts) : PE X (.Subscript e (.Slice none none (some st) p3) pos) (tStepL X.K te ts) := by
  refine ⟨fun pins s σ H Q I h => ?_⟩
  refine Subscript_ (thn (he.run pins s σ H _ I h) fun v s1 ⟨x, H1, I1, r1, q1⟩ => ?_)
  have hst : PO X (some st) (tPart ts) := po_some hs
  refine wpAny_Slice (thn (po_none.run pins s1 σ H1 (fun o H2 => o = none ∧ H2 = H1) I1 ⟨rfl, rfl⟩) fun vl s2 ⟨l, H2, I2, pl, el, e2⟩ => ?_)
  subst el e2
  refine thn (po_none.run pins s2 σ H2 (fun o H3 => o = none ∧ H3 = H2) I2 ⟨rfl, rfl⟩) fun vu s3 ⟨u, H3, I3, pu, eu, e3⟩ => ?_
  subst eu e3
  refine thn (hst.run pins s3 σ H3 _ I3 q1) fun vs s4 ⟨o, H4, I4, ps, q2⟩ => ?_
  obtain ⟨a, xs, i, ex, eo, hi, hx, q⟩ := q2
  subst ex eo
  cases r1
  have I5 : Inv X pins σ H4 { s4 with heap := s4.heap.push { cls := .type "slice", data := .fields #[vl, vu, vs] } } := I4.kept (t' := s4.toks) fun b ob q => Heap.get?_push_of_some _ q
  obtain ⟨its, r, ht, hz⟩ := I5.list hx
  have hlen := r.length
  show wpAny (model X.prog X.w) X.A (subscriptTail e (.Slice none none (some st) p3) (.ref a) (.ref s4.heap.objs.size)) (EP X pins σ Q) X.xe { s4 with heap := s4.heap.push { cls := .type "slice", data := .fields #[vl, vu, vs] } }
  refine tail_any (ops := [.ref a, .ref s4.heap.objs.size]) ht.isList.typeIs (PySem.slot_list_getitem.lookup) ?_ (by with_unfolding_all rfl)
  refine wpAny_getItem_list_slice ht.isList (Heap.IsSliceOf.new _ vl vu vs) pl pu ps (by rcases hi with z | z <;> rw [z] <;> decide) ?_ (by rw [List.size_toArray]; omega)
  have q := q _ (I5.hok.fresh (Nat.le_refl _))
  rcases hi with z | z
  · subst z
    rw [if_pos rfl] at q
    rw [pick_one]
    refine ⟨.ref _, _, I5.laid (t' := s4.toks) (o := .lst xs) (fun b ob q => Heap.get?_push_of_some _ q) (Nat.le_refl _) ?_, rfl, q⟩
    exact ⟨hz, _, 0, r, Heap.get?_push_size _ rfl⟩
  · subst z
    rw [if_neg (by decide)] at q
    rw [PySem.W.krv_pick]
    refine ⟨.ref _, _, I5.laid (t' := s4.toks) (o := .lst xs.reverse) (fun b ob q => Heap.get?_push_of_some _ q) (Nat.le_refl _) ?_, rfl, q⟩
    exact ⟨by rw [List.length_reverse]; exact hz, _, 0, r.reverse, Heap.get?_push_size _ rfl⟩
end Far

namespace Far
open PySem PySem.Spec PyProof.Rows L2
open SX (S)
abbrev Nm := List Nat
abbrev Tie := Nm × Nm × Int
/-- places in an order in which each has one tie to those ahead; the ties in that order -/
inductive Grown : List Nm → List Tie → Prop
  | one (a : Nm) : Grown [a] []
  | leaf {os : List Nm} {es : List Tie} {a b : Nm} {k : Int} {e : Tie} : Grown os es → a ∈ os → b ∉ os → e = (a, b, k) ∨ e = (b, a, k) → 1 ≤ k → k ≤ 1000000 → Grown (os ++ [b]) (es ++ [e])
def IsTree (pl : List Nm) (ts : List Tie) : Prop := ∃ os es, Grown os es ∧ pl.Perm os ∧ ts.Perm es
theorem Grown.nodup {os : List Nm} {es : List Tie} (h : Grown os es) : os.Nodup := by
  induction h with
  | one a => simp
  | leaf _ _ hb _ _ _ ih => exact nd_snoc' ih hb
theorem Grown.len {os : List Nm} {es : List Tie} (h : Grown os es) : os.length = es.length + 1 := by
  induction h with
  | one a => rfl
  | leaf _ _ _ _ _ _ ih => rw [List.length_append, List.length_append, ih]; rfl
theorem Grown.ties {os : List Nm} {es : List Tie} (h : Grown os es) : ∀ e ∈ es, e.1 ∈ os ∧ e.2.1 ∈ os ∧ 1 ≤ e.2.2 ∧ e.2.2 ≤ 1000000 := by
  induction h with
  | one a => simp
  | leaf h1 ha hb he k1 k2 ih =>
    intro e hm
    rcases List.mem_append.mp hm with z | z
    · obtain ⟨a1, a2, a3⟩ := ih e z
      exact ⟨List.mem_append_left _ a1, List.mem_append_left _ a2, a3⟩
    · rw [List.mem_singleton.mp z]
      rcases he with e | e <;> rw [e] <;> simp [ha, k1, k2]
theorem IsTree.nodup {pl : List Nm} {ts : List Tie} (h : IsTree pl ts) : pl.Nodup := by
  obtain ⟨os, es, g, p, _⟩ := h
  exact p.nodup_iff.mpr g.nodup
theorem IsTree.len {pl : List Nm} {ts : List Tie} (h : IsTree pl ts) : pl.length = ts.length + 1 := by
  obtain ⟨os, es, g, p, q⟩ := h
  rw [p.length_eq, q.length_eq]
  exact g.len
theorem IsTree.ties {pl : List Nm} {ts : List Tie} (h : IsTree pl ts) : ∀ e ∈ ts, e.1 ∈ pl ∧ e.2.1 ∈ pl ∧ 1 ≤ e.2.2 ∧ e.2.2 ≤ 1000000 := by
  obtain ⟨os, es, g, p, q⟩ := h
  intro e he
  obtain ⟨a, b, c⟩ := g.ties e (q.mem_iff.mp he)
  exact ⟨p.mem_iff.mpr a, p.mem_iff.mpr b, c⟩

/-! ### as data -/
def tieD (t : Tie) : PyData := .tuple [.str (S t.1), .str (S t.2.1), .int t.2.2]
def strD (l : Nm) : PyData := .str (S l)
def treeD (pl : List Nm) (ts : List Tie) : PyData := .tuple [.tuple (pl.map strD), .tuple (ts.map tieD)]
/-- tuples stand as they stood -/
structure TK (H H' : Hp) : Prop where
  tup : ∀ b xs, H b = some (.tup xs) → H' b = some (.tup xs)
  frz : ∀ b o xs, H b = some (.frz o (.tup xs)) → H' b = some (.frz o (.tup xs))
theorem TK.refl (H : Hp) : TK H H := ⟨fun _ _ h => h, fun _ _ _ h => h⟩
theorem TK.trans {H H1 H2 : Hp} (a : TK H H1) (b : TK H1 H2) : TK H H2 := ⟨fun x o h => b.tup x o (a.tup x o h), fun x o u h => b.frz x o u (a.frz x o u h)⟩
theorem TK.of {H H' : Hp} (a : Same H H') : TK H H' := ⟨fun x _ h => a x _ h, fun x _ _ h => a x _ h⟩
theorem TK.new {H : Hp} {p : Addr} {o : HO} (n : H p = none) : TK H (upd H p o) :=
  ⟨fun b xs h => by rw [upd_ne (ne_of_none h n)]; exact h, fun b u xs h => by rw [upd_ne (ne_of_none h n)]; exact h⟩
theorem TK.mut {H : Hp} {p : Addr} {o : HO} {xs : List V} (n : H p = some (.lst xs)) : TK H (upd H p o) :=
  ⟨fun b ys h => by rw [upd_ne (ne_of h n (by intro z; cases z))]; exact h, fun b u ys h => by rw [upd_ne (ne_of h n (by intro z; cases z))]; exact h⟩
theorem SmX.tk {d : Addr} {H H' : Hp} {xs : List V} (s : SmX d H H') (n : H d = some (.lst xs)) : TK H H' :=
  ⟨fun b ys h => s b _ (ne_of h n (by intro z; cases z)) h, fun b u ys h => s b _ (ne_of h n (by intro z; cases z)) h⟩
theorem DeckAt.lst {H : Hp} {d c : Addr} {n : Nat} (h : DeckAt H d c n) : ∃ xs, H d = some (.lst xs) := by
  obtain ⟨_, _, _, _, _, h1, _⟩ := h
  exact ⟨_, h1⟩
theorem DeckAt.tk {H H' : Hp} {d c : Addr} {n : Nat} (h : DeckAt H d c n) (s : SmX d H H') : TK H H' := by
  obtain ⟨xs, e⟩ := h.lst
  exact s.tk e
mutual
/-- a value that never changes: none, truths, numbers, texts, tuples of such -/
inductive Dt (H : Hp) : V → PyData → Prop
  | non : Dt H .non .none
  | bl (b : Bool) : Dt H (.bl b) (.bool b)
  | int (i : Int) : Dt H (.int i) (.int i)
  | str (x : Str) : Dt H (.str x) (.str x)
  | tup {a : Addr} {xs : List V} {ds : List PyData} : H a = some (.tup xs) → DtAll H xs ds → Dt H (.ref a) (.tuple ds)
  /-- a tuple of texts that is known to have no dict of its own -/
  | tupZ {a : Addr} {pl : List Nm} {ds : List PyData} {o : Obj} : ds = pl.map strD → pl ≠ [] → o.dict = none → H a = some (.frz o (.tup ((pl.map S).map V.str))) → Dt H (.ref a) (.tuple ds)
inductive DtAll (H : Hp) : List V → List PyData → Prop
  | nil : DtAll H [] []
  | cons {v : V} {vs : List V} {d : PyData} {ds : List PyData} : Dt H v d → DtAll H vs ds → DtAll H (v :: vs) (d :: ds)
end
mutual
theorem Dt.keep {H H' : Hp} (t : TK H H') : ∀ {v : V} {d : PyData}, Dt H v d → Dt H' v d
  | _, _, .non => .non
  | _, _, .bl b => .bl b
  | _, _, .int i => .int i
  | _, _, .str x => .str x
  | _, _, .tup a b => .tup (t.tup _ _ a) (DtAll.keep t b)
  | _, _, .tupZ e n d a => .tupZ e n d (t.frz _ _ _ a)
theorem DtAll.keep {H H' : Hp} (t : TK H H') : ∀ {vs : List V} {ds : List PyData}, DtAll H vs ds → DtAll H' vs ds
  | _, _, .nil => .nil
  | _, _, .cons a b => .cons (Dt.keep t a) (DtAll.keep t b)
end
theorem dpa_strs {K : PySem.W.Frag} (H : Hp) : ∀ ls : List Nm, DpAll K H ((ls.map S).map V.str) (ls.map strD)
  | [] => .nil
  | _ :: r => .cons (.str _) (dpa_strs H r)
mutual
theorem Dt.dp {K : PySem.W.Frag} {H : Hp} : ∀ {v : V} {d : PyData}, Dt H v d → Dp K H v d
  | _, _, .non => .non
  | _, _, .bl b => .bl b
  | _, _, .int i => .int i
  | _, _, .str x => .str x
  | _, _, .tup a b => .tup (.inl (.inl a)) (DtAll.dp b)
  | _, _, .tupZ (pl := pl) (o := o) e _ _ a => e ▸ .tup (.inl (.inr ⟨o, a⟩)) (dpa_strs H pl)
theorem DtAll.dp {K : PySem.W.Frag} {H : Hp} : ∀ {vs : List V} {ds : List PyData}, DtAll H vs ds → DpAll K H vs ds
  | _, _, .nil => .nil
  | _, _, .cons a b => .cons (Dt.dp a) (DtAll.dp b)
end
theorem DtAll.len {H : Hp} : ∀ {vs : List V} {ds : List PyData}, DtAll H vs ds → vs.length = ds.length
  | _, _, .nil => rfl
  | _, _, .cons _ t => congrArg (· + 1) (DtAll.len t)
theorem DtAll.app {H : Hp} : ∀ {vs ws : List V} {ds es : List PyData}, DtAll H vs ds → DtAll H ws es → DtAll H (vs ++ ws) (ds ++ es)
  | _, _, _, _, .nil, h => h
  | _, _, _, _, .cons a t, h => .cons a (DtAll.app t h)
theorem DtAll.get {H : Hp} : ∀ {vs : List V} {ds : List PyData} {i : Nat} {v : V}, DtAll H vs ds → vs[i]? = some v → ∃ d, ds[i]? = some d ∧ Dt H v d
  | _, _, _, _, .nil, e => by simp at e
  | _, _, 0, _, .cons a _, e => by
    simp at e
    subst e
    exact ⟨_, rfl, a⟩
  | _, _, i + 1, _, .cons _ t, e => by
    obtain ⟨d, h1, h2⟩ := DtAll.get (i := i) t (by simpa using e)
    exact ⟨d, by simpa using h1, h2⟩
theorem DtAll.del {H : Hp} : ∀ {vs : List V} {ds : List PyData} (i : Nat), DtAll H vs ds → DtAll H (vs.eraseIdx i) (ds.eraseIdx i)
  | _, _, _, .nil => .nil
  | _, _, 0, .cons _ t => t
  | _, _, i + 1, .cons a t => .cons a (DtAll.del i t)
theorem DtAll.strs {H : Hp} : ∀ {ls : List Nm} {vs : List V}, DtAll H vs (ls.map strD) → vs = (ls.map S).map V.str
  | [], _, .nil => rfl
  | l :: r, _, .cons (.str _) t => by
    rw [DtAll.strs (ls := r) t]
    rfl
theorem dt_strs (H : Hp) : ∀ ls : List Nm, DtAll H ((ls.map S).map V.str) (ls.map strD)
  | [] => .nil
  | _ :: r => .cons (.str _) (dt_strs H r)
theorem perm_erase {α : Type} : ∀ {l : List α} {k : Nat} {x : α}, l[k]? = some x → (x :: l.eraseIdx k).Perm l
  | [], _, _, e => by simp at e
  | a :: r, 0, x, e => by
    simp at e
    subst e
    exact .refl _
  | a :: r, k + 1, x, e => by
    have ih := perm_erase (l := r) (k := k) (x := x) (by simpa using e)
    show (x :: a :: r.eraseIdx k).Perm (a :: r)
    exact (List.Perm.swap a x _).trans (ih.cons a)
theorem perm_pick {α : Type} {l1 l2 m : List α} {x : α} {k : Nat} (h : (l1 ++ l2).Perm m) (e : l2[k]? = some x) : ((l1 ++ [x]) ++ l2.eraseIdx k).Perm m := by
  rw [List.append_assoc]
  exact ((List.Perm.refl l1).append (perm_erase e)).trans h
theorem map_erase {α β : Type} (f : α → β) : ∀ (l : List α) (k : Nat), (l.map f).eraseIdx k = (l.eraseIdx k).map f
  | [], _ => rfl
  | _ :: _, 0 => rfl
  | a :: r, k + 1 => congrArg (f a :: ·) (map_erase f r k)
/-- a tuple of texts: of this heap, or one known through and through -/
def TupAt (H : Hp) (a : Addr) (xs : List V) : Prop := H a = some (.tup xs) ∨ ∃ o : Obj, o.dict = none ∧ H a = some (.frz o (.tup xs))
theorem TupAt.sq {K : PySem.W.Frag} {H : Hp} {a : Addr} {xs : List V} (h : TupAt H a xs) : SqT K H a xs := h.elim (fun h => .inl (.inl h)) fun ⟨o, _, h⟩ => .inl (.inr ⟨o, h⟩)
theorem TupAt.ne {H : Hp} {a p : Addr} {xs : List V} (h : TupAt H a xs) (n : H p = none) : a ≠ p := h.elim (fun h => ne_of_none h n) fun ⟨_, _, h⟩ => ne_of_none h n
theorem TupAt.same {H H' : Hp} {a : Addr} {xs : List V} (h : TupAt H a xs) (s : Same H H') : TupAt H' a xs := h.elim (fun h => .inl (s _ _ h)) fun ⟨o, d, h⟩ => .inr ⟨o, d, s _ _ h⟩
theorem TupAt.upd {H : Hp} {a p : Addr} {xs : List V} {o : HO} (h : TupAt H a xs) (n : H p = none) : TupAt (L2.upd H p o) a xs := h.elim (fun q => .inl (by rw [upd_ne (ne_of_none q n)]; exact q)) fun ⟨u, d, q⟩ => .inr ⟨u, d, by rw [upd_ne (ne_of_none q n)]; exact q⟩
theorem TupAt.updN {H : Hp} {a p : Addr} {xs : List V} {o : HO} (h : TupAt H a xs) (n : a ≠ p) : TupAt (L2.upd H p o) a xs := h.elim (fun q => .inl (by rw [upd_ne n]; exact q)) fun ⟨u, d, q⟩ => .inr ⟨u, d, by rw [upd_ne n]; exact q⟩
end Far

namespace Far
open PySem PySem.Spec PyProof.Rows L2
section
variable {X : Cx} {a o e : Expr} {ta to te : TE}
/-- tuple(xs) of a list, the new tuple known through and through -/
def tTupZ (K : PySem.W.Frag) (ta : TE) : TE := fun σ H Q => ta σ H fun x H1 => ∃ (l : Addr) (xs : List V), x = .ref l ∧ SqL K H1 l xs ∧ ∀ (p : Addr) (o : Obj), H1 p = none → o.dict = none → Q (.ref p) (upd H1 p (.frz o (.tup xs)))
theorem pe_tupleZ {p pos : Pos} (hg : Gl X "tuple") (hm : X.mg "tuple" = none) (ha : PE X a ta) (na : starEach [a] X.env = (false, eval a X.env) :: starEach [] X.env := by rfl) : PE X (.Call (.Name "tuple" p) [a] [] pos) (tTupZ X.K ta) := by
  refine ⟨fun pins s σ H Q I h => ?_⟩
  refine Call_ (ld_blt I hg hm bt_tuple (PyProof.Rows.callWith_type1 (one_arg ha I h (fun v s2 x H2 I2 r q => ?_) na) na))
  obtain ⟨l, xs, rfl, hq, q⟩ := q
  cases r
  obtain ⟨its, rv, pl, hz⟩ := I2.list hq
  refine call_tuple_list pl.isList (fun h' k => ?_) (by rw [List.size_toArray, ← rv.length]; exact hz)
  have I3 : Inv X pins σ H2 { s2 with heap := h' } := I2.kept (t' := s2.toks) k
  have new : (h'.push { cls := .type "tuple", data := .seq its.toArray }).get? h'.objs.size = some ({ cls := .type "tuple", data := .seq its.toArray } : Obj) := Heap.get?_push_size _ rfl
  exact ⟨.ref h'.objs.size, _, I3.laid (t' := s2.toks) (o := .frz { cls := .type "tuple", data := .seq its.toArray } (.tup xs)) (fun b o e => Heap.get?_push_of_some _ e) (Nat.le_refl _)
    (show ObjOk X.prog X.w _ _ _ (.frz _ (.tup xs)) from ⟨new, hz, its, rv, IsTup.new _ _⟩), rfl, q _ _ (I3.hok.fresh (Nat.le_refl _)) rfl⟩
/-- t.index(x), the first place, of a tuple of texts known through and through -/
def tIxZ (to te : TE) : TE := fun σ H Q => to σ H fun x H1 => ∃ (p : Addr) (ys : List Str) (u : Obj), x = .ref p ∧ u.dict = none ∧ H1 p = some (.frz u (.tup (ys.map V.str))) ∧ te σ H1 fun y H2 => H2 p = H1 p ∧ ∃ (z : Str) (j : Nat), y = .str z ∧ ys[j]? = some z ∧ (∀ m, m < j → ys[m]? ≠ some z) ∧ Q (.int (j : Nat)) H2
theorem pe_ixZ {apos cpos : Pos} (ho : PE X o to) (he : PE X e te) (hbase : attributeBase o "index" X.env (eval o X.env) = eval o X.env := by rfl)
    (hfew : ((backTo cpos (starEach [e] X.env)).all (fun x => !x.1) && (backToKw cpos (keywordEach [] X.env)).all (fun x => x.1.isSome)
      && decide ([e].length + ([] : List Keyword).length + (if ([] : List Keyword).isEmpty then 0 else 1) < 30)) = true := by rfl)
    (hline : (apos.endLine == cpos.line) = true := by rfl) (na : starEach [e] X.env = (false, eval e X.env) :: starEach [] X.env := by rfl) :
    PE X (.Call (.Attribute o "index" apos) [e] [] cpos) (tIxZ to te) := by
  refine ⟨fun pins s σ H Q I h => ?_⟩
  refine wpAny_Call_method_late hbase hfew hline rfl (thn (ho.run pins s σ H _ I h) fun v s1 ⟨x, H1, I1, r1, q1⟩ => ?_)
  obtain ⟨p, ys, u, rfl, hd, hp, q1⟩ := q1
  cases r1
  have fz : ObjOk X.prog X.w H1 s1.heap p (.frz u (.tup (ys.map V.str))) := I1.hok p _ hp
  obtain ⟨hu, hz, its, rv, it⟩ := fz
  refine ⟨"tuple", "tuple.index", PySem.F.plainAttrs_tuple, PySem.F.slot_tuple_index, PySem.F.type_tuple_index, it.typeIs, fun c e => by cases e; exact ⟨u, hu, hd⟩, ?_⟩
  have hA : wpAny (model X.prog X.w) X.A (spliced (backTo cpos (starEach [e] X.env))) (fun us s2 => wpAny (model X.prog X.w) X.A (call (.builtin "tuple.index") (.ref p :: us)) (EP X pins σ Q) X.xe s2) X.xe s1 :=
    one_arg he I1 q1 (fun y s2 x H2 I2 r2 q2 => by
      obtain ⟨same, z, j, rfl, hj, hno, q⟩ := q2
      exact mt_tup_index pins s2 σ H2 (.ref p) [.str z] (.ref p) [y] Q I2 rfl (.cons r2 .nil) ⟨p, ys, z, j, rfl, rfl, .inl (.inr ⟨u, same.trans hp⟩), hj, hno, q⟩) na
  rw [na] at hA ⊢
  exact Calls.callWith_builtin (by rfl) (Calls.evalArgs_plain hA)
/-- (a, b, ..), the new tuple known through and through -/
def tTupD (ta : TA) : TE := fun σ H Q => ta σ H fun xs H1 => xs.length ≤ sizeLine ∧ ∀ (p : Addr) (o : Obj), H1 p = none → o.dict = none → Q (.ref p) (upd H1 p (.frz o (.tup xs)))
theorem pe_tupD {es : List Expr} {x1 : Nat} {pos : Pos} {t : TA} (h : PA X es t) : PE X (.Tuple es x1 pos) (tTupD t) := by
  refine ⟨fun pins s σ H Q I hq => ?_⟩
  refine wpAny_Tuple_spliced (thn (h.run pos pins s σ H _ I hq) fun us s1 ⟨xs, H1, I1, r, z, q⟩ => ⟨by rw [← r.length]; exact z, ?_⟩)
  have hf : H1 s1.heap.objs.size = none := I1.hok.fresh (Nat.le_refl _)
  have new : (s1.heap.push { cls := .type "tuple", data := .seq us.toArray }).get? s1.heap.objs.size = some ({ cls := .type "tuple", data := .seq us.toArray } : Obj) := Heap.get?_push_size _ rfl
  refine ⟨.ref s1.heap.objs.size, upd H1 s1.heap.objs.size (.frz { cls := .type "tuple", data := .seq us.toArray } (.tup xs)), I1.laid (t' := s1.toks) (fun b u e => Heap.get?_push_of_some _ e) (Nat.le_refl _) ?_, rfl, q _ _ hf rfl⟩
  exact (show ObjOk X.prog X.w _ _ _ (.frz _ (.tup xs)) from ⟨new, z, us, r, IsTup.new _ _⟩)
end
end Far

namespace Far
open PySem PySem.Spec PyProof.Rows L2
open C8 (pss_cut tCut)
open SX (S)
abbrev s_law_tree : Stmt := topS 21
abbrev N_law_tree : List Str := ["seed", "most", "many", "shape", "kind", "names", "ties", "k", "order", "near", "at", "pair"]
theorem sc_law_tree : FnScope N_law_tree ["seed", "most"] (defScope s_law_tree) := ⟨rfl, rfl, rfl, by decide +kernel, rfl, by decide +kernel, by decide +kernel⟩
def iV (j : Nat) : V := .int j
theorem rgV_nat (n : Nat) : rgV 0 (n : Int) = (List.range n).map iV := by
  unfold rgV
  rw [show ((n : Int) - 0).toNat = n by omega]
  refine List.map_congr_left fun i _ => ?_
  show V.int (0 + (i : Int)) = V.int i
  rw [Int.zero_add]
theorem getD_range : ∀ ls : List Nm, (List.range ls.length).map (fun j => ls.getD j []) = ls
  | [] => rfl
  | a :: r => by
    rw [List.length_cons, List.range_succ_eq_map, List.map_cons, List.map_map]
    congr 1
    exact getD_range r
/-- the names in the order told -/
def inOrd (ls : List Nm) (js : List Nat) : List Nm := js.map fun j => ls.getD j []
theorem inOrd_perm {ls : List Nm} {js : List Nat} (h : js.Perm (List.range ls.length)) : (inOrd ls js).Perm ls := by
  have := h.map fun j => ls.getD j []
  rwa [getD_range] at this
theorem inOrd_at {ls : List Nm} {js : List Nat} (h : js.Perm (List.range ls.length)) {a : Nat} (ha : a < ls.length) : ∃ (j : Nat) (x : Nm), (js.map iV)[a]? = some (.int j) ∧ ((ls.map S).map V.str)[j]? = some (.str (S x)) ∧ (inOrd ls js)[a]? = some x := by
  have hl : js.length = ls.length := by rw [h.length_eq, List.length_range]
  have h1 : js[a]? = some (js[a]'(by omega)) := List.getElem?_eq_getElem (by omega)
  generalize js[a]'(by omega) = j at h1
  have hj : j < ls.length := List.mem_range.mp (h.mem_iff.mp (List.mem_of_getElem? h1))
  refine ⟨j, ls[j], by rw [List.getElem?_map, h1]; rfl, by rw [List.getElem?_map, List.getElem?_map, List.getElem?_eq_getElem hj]; rfl, ?_⟩
  unfold inOrd
  rw [List.getElem?_map, h1]
  show some (ls.getD j []) = _
  simp [List.getD, hj]
theorem perm_insert {α : Type} {l m : List α} {x : α} (k : Nat) (h : l.Perm m) : (l.take k ++ [x] ++ l.drop k).Perm (m ++ [x]) := by
  have e : (l.take k ++ [x] ++ l.drop k).Perm (x :: l) := by
    rw [List.append_assoc]
    have := List.perm_middle (a := x) (l₁ := l.take k) (l₂ := l.drop k)
    rw [List.take_append_drop] at this
    exact this
  exact (e.trans (h.cons x)).trans (List.perm_append_singleton x m).symm
theorem DtAll.ins {H : Hp} {vs : List V} {ds : List PyData} {v : V} {d : PyData} (k : Nat) (h : DtAll H vs ds) (hv : Dt H v d) : DtAll H (vs.take k ++ [v] ++ vs.drop k) (ds.take k ++ [d] ++ ds.drop k) := by
  have ht : ∀ (k : Nat) {vs : List V} {ds : List PyData}, DtAll H vs ds → DtAll H (vs.take k) (ds.take k) ∧ DtAll H (vs.drop k) (ds.drop k) := by
    intro k
    induction k with
    | zero => exact fun h => ⟨.nil, h⟩
    | succ k ih =>
      intro vs ds h
      cases h with
      | nil => exact ⟨.nil, .nil⟩
      | cons a t => exact ⟨.cons a (ih t).1, (ih t).2⟩
  exact ((ht k h).1.app (.cons hv .nil)).app (ht k h).2
theorem SeedAt.tk {H H' : Hp} {d : Addr} {n : Nat} (h : SeedAt H d n) (s : SmX d H H') : TK H H' := by
  obtain ⟨xs, e⟩ := h.lst
  exact s.tk e
theorem seq_ix {r : Int} {n : Nat} (h0 : 0 ≤ r) (h1 : r < n) : seqIndex? r n = some r.toNat := by
  refine (ixN_seq (j := r.toNat) ?_).1
  unfold ixN
  rw [if_pos h0, if_pos h1]
/-- within the making of a tree: the names at p, the ties so far at t -/
structure Tr (H H' : Hp) (d p t : Addr) (n : Nat) (ls : List Nm) (tvs : List V) (ts : List Tie) : Prop where
  nm : NamesAt H' p ls
  tt : H' t = some (.lst tvs)
  al : DtAll H' tvs (ts.map tieD)
  sm : SmX d H H'
  dk : SeedAt H' d n
theorem Tr.new {H H' : Hp} {d p t q : Addr} {n : Nat} {ls : List Nm} {tvs : List V} {ts : List Tie} {o : HO} (x : Tr H H' d p t n ls tvs ts) (nq : H' q = none) : Tr H (upd H' q o) d p t n ls tvs ts :=
  ⟨by unfold NamesAt; rw [upd_ne (ne_of_none x.nm nq)]; exact x.nm, by rw [upd_ne (ne_of_none x.tt nq)]; exact x.tt, DtAll.keep (TK.new nq) x.al, x.sm.new nq, x.dk.new nq⟩
theorem Tr.step {H H' H'' : Hp} {d p t : Addr} {n m : Nat} {ls : List Nm} {tvs : List V} {ts : List Tie} (x : Tr H H' d p t n ls tvs ts) (npd : p ≠ d) (ntd : t ≠ d) (s : SmX d H' H'') (D : SeedAt H'' d m) : Tr H H'' d p t m ls tvs ts :=
  ⟨s p _ npd x.nm, s t _ ntd x.tt, DtAll.keep (x.dk.tk s) x.al, x.sm.trans s, D⟩
theorem Tr.put {H H' : Hp} {d p t q : Addr} {n : Nat} {ls : List Nm} {tvs xs : List V} {ts : List Tie} {o : HO} (x : Tr H H' d p t n ls tvs ts) (np : q ≠ p) (nt : q ≠ t) (nd : q ≠ d) (n0 : H q = none) (hq : H' q = some (.lst xs)) : Tr H (upd H' q o) d p t n ls tvs ts :=
  ⟨by unfold NamesAt; rw [upd_ne np.symm]; exact x.nm, by rw [upd_ne nt.symm]; exact x.tt, DtAll.keep (TK.mut hq) x.al, x.sm.put n0, x.dk.put nd⟩
theorem Tr.mono {H H' : Hp} {d p t : Addr} {n m : Nat} {ls : List Nm} {tvs : List V} {ts : List Tie} (x : Tr H H' d p t n ls tvs ts) (h : n ≤ m) : Tr H H' d p t m ls tvs ts := ⟨x.nm, x.tt, x.al, x.sm, x.dk.mono h⟩
section
variable {P : Program} {w : World} {K : PySem.W.Frag} {mg : Str → Option Value} {base : Heap}
/-- the tree's places stand as a tuple that is known through and through -/
def PlZ (H : Hp) (v : V) (pl : List Nm) : Prop := ∃ (t a b : Addr) (o : Obj), v = .ref t ∧ H t = some (.tup [.ref a, .ref b]) ∧ o.dict = none ∧ H a = some (.frz o (.tup ((pl.map S).map V.str)))
theorem PlZ.same {H H' : Hp} {v : V} {pl : List Nm} (h : PlZ H v pl) (s : Same H H') : PlZ H' v pl := by
  obtain ⟨t, a, b, o, e, h1, h2, h3⟩ := h
  exact ⟨t, a, b, o, e, s _ _ h1, h2, s _ _ h3⟩
theorem PlZ.keep {H H' : Hp} {v : V} {pl : List Nm} (h : PlZ H v pl) (s : TK H H') : PlZ H' v pl := by
  obtain ⟨t, a, b, o, e, h1, h2, h3⟩ := h
  exact ⟨t, a, b, o, e, s.tup _ _ h1, h2, s.frz _ _ _ h3⟩
def spTree : Sp := fun vs H Q _ => ∃ (d : Addr) (n : Nat) (most : Nat), vs = [.ref d, .int most] ∧ SeedAt H d n ∧ n < 70000 ∧ 1 ≤ most ∧ most ≤ 30 ∧ ∀ (H' : Hp) (t : Addr) (pl : List Nm) (ts : List Tie), IsTree pl ts → (∀ l ∈ pl, NameOk l) → pl.length ≤ most → Dt H' (.ref t) (treeD pl ts) → PlZ H' (.ref t) pl → SmX d H H' → SeedAt H' d (n + 1000) → Q (.ref t) H'
theorem ok_tree {f : Addr} {fd : FuncData} (F : Fun K "_law_tree" "_law_tree" s_law_tree f fd) (T : TxtG mg) (C_law_draw : Cal P w K mg base 1 "_law_draw" spDraw) (C_law_name : Cal P w K mg base 2 "_law_name" spName) (C_law_length : Cal P w K mg base 2 "_law_length" spLength) : FnOk P w K mg base CX0 3 f fd ["seed", "most"] spTree := by
  refine F.ok sc_law_tree (fun vs H Q E h => ?_) (fun cdv A outer s H vs Q E hr h => ?_)
  · obtain ⟨d, n, most, rfl, _⟩ := h
    rfl
  · obtain ⟨d, n, most, rfl, hD, hn, hm1, hm, q⟩ := h
    refine ⟨_, (pss_cons (ps_set (i := 2) sc_law_tree.nd rfl (.inl rfl) (pe_ix ix_list (pe_lst (pa_cons (pe_op op_add pe_int (pe_c C_law_draw hr (by decide) rfl (pa_cons (pv 0) (pa_cons (pe_callB (call_min2 rfl) (by rfl) T.min bt_min (pa_cons (pv 1) (pa_cons pe_int pa_nil))) pa_nil)))) (pa_cons (pe_op op_add pe_int (pe_c C_law_draw hr (by decide) rfl (pa_cons (pv 0) (pa_cons (pv 1) pa_nil)))) (pa_cons (pv 1) pa_nil)))) (pe_c C_law_draw hr (by decide) rfl (pa_cons (pv 0) (pa_cons pe_int pa_nil))) (fun _ _ => rfl)))
      (pss_cons (ps_set (i := 3) sc_law_tree.nd rfl (.inl rfl) (pe_c C_law_draw hr (by decide) rfl (pa_cons (pv 0) (pa_cons pe_int pa_nil))))
      (pss_cons (ps_set (i := 4) sc_law_tree.nd rfl (.inl rfl) (pe_c C_law_draw hr (by decide) rfl (pa_cons (pv 0) (pa_cons pe_int pa_nil))))
      (pss_cons (ps_set (i := 5) sc_law_tree.nd rfl (.inl rfl) (pe_lst pa_nil))
      (pss_cons (ps_set (i := 6) sc_law_tree.nd rfl (.inl rfl) (pe_lst pa_nil))
      (pss_cut (ps_for PassesOwn.never rfl (pi_range1 (by rfl) T.range (pa_cons (pv 2) pa_nil)) (pg_name (i := 7) sc_law_tree.nd rfl (.inl rfl))
        (pss_one (ps_expr (pe_bm PySem.F.plainAttrs_list PySem.F.slot_list_append PySem.F.type_list_append mt_append (pv 5) (pa_cons (pe_c C_law_name hr (by decide) rfl (pa_cons (pv 0) (pa_cons (pv 5) pa_nil))) pa_nil)))))
      (pss_cons (ps_set (i := 8) sc_law_tree.nd rfl (.inr rfl) (pe_listRg rfl (by rfl) T.list (prg_1 (by rfl) T.range (pv 2))))
      (pss_cut (ps_if (pt_cmpR op_gt (pe_c C_law_draw hr (by decide) rfl (pa_cons (pv 0) (pa_cons pe_int pa_nil))) pe_int (nomark _))
        (pss_one (ps_set (i := 8) sc_law_tree.nd rfl (.inr rfl) (pe_lc (own := [("k", 7)]) (g := gName 7) (tt := tYes) rfl sc_law_tree.nd (pi_range1 (by rfl) T.range (pa_cons (pv 2) pa_nil)) (blkOk_by (N := N_law_tree) (sc := defScope s_law_tree) (by decide +kernel)) (fun _ _ _ _ _ => pg_name (i := 7) sc_law_tree.nd rfl (Or.inl rfl)) (fun _ _ _ _ _ => pts_nil) (fun _ _ _ _ _ => (show PE _ _ (tBM K "list" rPopAt _ _) from pe_bm PySem.F.plainAttrs_list PySem.F.slot_list_pop PySem.F.type_list_pop mt_popAt (pv 8) (pa_cons (pe_c C_law_draw hr (by decide) rfl (pa_cons (pv 0) (pa_cons (pe_callB (lenK (K := K)) (by rfl) T.len bt_len (pa_cons (pv 8) pa_nil)) pa_nil))) pa_nil))))))
        pss_nil)
      (pss_cut (ps_for PassesOwn.never rfl (pi_range2 (by rfl) T.range (pa_cons pe_int (pa_cons (pv 2) pa_nil))) (pg_name (i := 7) sc_law_tree.nd rfl (.inl rfl))
        (pss_cons (ps_set (i := 9) sc_law_tree.nd rfl (.inl rfl) (pe_op op_sub (pe_op op_sub (pv 7) pe_int) (pe_c C_law_draw hr (by decide) rfl (pa_cons (pv 0) (pa_cons (pe_callB (call_min2 rfl) (by rfl) T.min bt_min (pa_cons (pv 7) (pa_cons pe_int pa_nil))) pa_nil)))))
        (pss_cons (ps_set (i := 10) sc_law_tree.nd rfl (.inl rfl) (pe_ix ix_list (pe_lst (pa_cons (pe_op op_sub (pv 7) pe_int) (pa_cons pe_int (pa_cons (pe_op op_mul (pe_op op_mod (pv 7) pe_int) (pe_callTy call_int1 (by rfl) T.int bt_int (pa_cons (pe_cmpR op_gt (pv 7) pe_int (nomark _)) pa_nil))) (pa_cons (pv 9) (pa_cons (pe_c C_law_draw hr (by decide) rfl (pa_cons (pv 0) (pa_cons (pv 7) pa_nil))) (pa_cons (pe_callB (call_max2 rfl) (by rfl) T.max bt_max (pa_cons pe_int (pa_cons (pe_op op_sub (pe_op op_sub (pv 7) pe_int) (pe_op op_mod (pv 7) pe_int)) pa_nil))) pa_nil))))))) (pv 3) (fun _ _ => rfl)))
        (pss_cons (ps_set (i := 11) sc_law_tree.nd rfl (.inl rfl) (pe_stepL (pe_lst (pa_cons (pe_ix ix_list (pv 5) (pe_ix ix_list (pv 8) (pv 10) (fun _ _ => rfl)) (fun _ _ => rfl)) (pa_cons (pe_ix ix_list (pv 5) (pe_ix ix_list (pv 8) (pv 7) (fun _ _ => rfl)) (fun _ _ => rfl)) pa_nil))) (pe_ix ix_list (pe_lst (pa_cons pe_int (pa_cons (pe_un un_neg pe_int) pa_nil))) (pe_c C_law_draw hr (by decide) rfl (pa_cons (pv 0) (pa_cons pe_int pa_nil))) (fun _ _ => rfl))))
        (pss_one (ps_expr (pe_bm PySem.F.plainAttrs_list PySem.F.slot_list_insert PySem.F.type_list_insert mt_insert (pv 6) (pa_cons (pe_c C_law_draw hr (by decide) rfl (pa_cons (pv 0) (pa_cons (pe_op op_add (pe_callB call_len_seq (by rfl) T.len bt_len (pa_cons (pv 6) pa_nil)) pe_int) pa_nil))) (pa_cons (pe_tup (pa_cons (pe_ix ix_list (pv 11) pe_int (fun _ _ => rfl)) (pa_cons (pe_ix ix_list (pv 11) pe_int (fun _ _ => rfl)) (pa_cons (pe_c C_law_length hr (by decide) rfl (pa_cons (pv 0) (pa_cons (pv 4) pa_nil))) pa_nil)))) pa_nil)))))))))
      (pss_one (ps_ret (pe_tup (pa_cons (pe_tupleZ (by rfl) T.tuple (pv 5)) (pa_cons (pe_tupleOf (by rfl) T.tuple (pv 6)) pa_nil)))))))))))))), ?_⟩
    -- many
    refine ⟨_, rfl, _, rfl, _, _, rfl, d, n, _, rfl, hD, by omega, by split <;> omega, by split <;> omega, fun H1 r1 r10 r11 S1 D1 => ⟨_, _, rfl, rfl, ?_⟩⟩
    have r12 : r1 < most := by split at r11 <;> omega
    refine ⟨_, rfl, _, rfl, d, _, most, rfl, D1, by omega, by omega, by omega, fun H2 r2 r20 r21 S2 D2 => ⟨_, _, rfl, rfl, ?_⟩⟩
    refine ⟨_, rfl, (by show 3 ≤ sizeLine; decide), fun p1 np1 => ?_⟩
    refine ⟨_, rfl, d, _, 3, rfl, D2.new np1, by omega, by decide, by decide, fun H3 r3 r30 r31 S3 D3 => ?_⟩
    have hp1 := S3 p1 _ (D2.nd np1) upd_same
    have SM3 : SmX d H H3 := ((S1.trans S2).new np1).trans S3
    obtain ⟨v, hv, mv⟩ := atI_in (xs := [V.int (1 + r1), .int (1 + r2), .int most]) r30 (by simpa using r31)
    have hs : ∃ m : Nat, v = .int m ∧ 1 ≤ m ∧ m ≤ most := by
      simp only [List.mem_cons, List.not_mem_nil, or_false] at mv
      rcases mv with e | e | e
      · exact ⟨(1 + r1).toNat, by rw [e]; congr 1; omega, by omega, by omega⟩
      · exact ⟨(1 + r2).toNat, by rw [e]; congr 1; omega, by omega, by omega⟩
      · exact ⟨most, e, by omega, by omega⟩
    obtain ⟨many, rfl, m1, mm⟩ := hs
    refine ⟨p1, _, r3, _, rfl, rfl, SqL.of hp1, hv, ?_⟩
    -- shape, kind
    refine ⟨_, rfl, d, _, 6, rfl, D3, by omega, by decide, by decide, fun H4 shape w0 w1 S4 D4 => ?_⟩
    refine ⟨_, rfl, d, _, 5, rfl, D4, by omega, by decide, by decide, fun H5 kind g0 g1 S5 D5 => ?_⟩
    have SM5 : SmX d H H5 := (SM3.trans S4).trans S5
    -- names, ties
    refine ⟨Nat.zero_le _, fun p np => ?_⟩
    have npd : p ≠ d := D5.nd np
    have np0 : H p = none := SM5.free np npd
    have D6 := D5.new (o := .lst []) np
    have SM6 : SmX d H (upd H5 p (.lst [])) := SM5.new np
    refine ⟨Nat.zero_le _, fun t nt => ?_⟩
    have ntd : t ≠ d := D6.nd nt
    have nt0 : H t = none := SM6.free nt ntd
    have ntp : p ≠ t := ne_of_none upd_same nt
    -- the names
    refine ⟨fun σ' H' => ∃ (x7 : Option V) (ls : List Nm), σ' = [some (.ref d), some (.int most), some (.int many), some (.int shape), some (.int kind), some (.ref p), some (.ref t), x7, none, none, none, none] ∧ ls.length = many ∧ ls.Nodup ∧ (∀ l ∈ ls, NameOk l) ∧ Tr H H' d p t (n + 5 + 20 * many) ls [] [], ?_, fun σ' H' hM => ?_⟩
    · refine ⟨_, rfl, (many : Int), rfl, by omega, by omega, ?_⟩
      refine for_range (lo := 0) (n := (many : Int).toNat) (fun i σ' H' => ∃ (x7 : Option V) (ls : List Nm), σ' = [some (.ref d), some (.int most), some (.int many), some (.int shape), some (.int kind), some (.ref p), some (.ref t), x7, none, none, none, none] ∧ ls.length = i ∧ ls.Nodup ∧ (∀ l ∈ ls, NameOk l) ∧ Tr H H' d p t (n + 5 + 20 * i) ls [] []) ⟨none, [], rfl, rfl, List.nodup_nil, by simp, ?_, upd_same, .nil, SM6.new nt, D6.new nt⟩ (fun i σ' H' hi hP => ?_) (fun σ' H' hP => ?_)
      · unfold NamesAt
        rw [upd_ne ntp]
        exact upd_same
      · obtain ⟨x7, ls, rfl, hl, nd, ok, X0⟩ := hP
        refine ⟨_, rfl, .inl ⟨rfl, _, SqL.of X0.nm⟩, _, rfl, _, rfl, d, p, _, ls, rfl, X0.dk, by omega, npd, X0.nm, by omega, ok, fun H7 l lok nin S7 D7 => ?_⟩
        have X7 := X0.step npd ntd S7 D7
        refine ⟨p, _, _, rfl, rfl, X7.nm, by rw [List.length_map, List.length_map]; exact sz_lt (by omega), ?_⟩
        refine ⟨_, ls ++ [l], rfl, by rw [List.length_append, hl]; rfl, nd_snoc' nd nin, fun x hx => ?_, ?_, ?_, ?_, X7.sm.put np0, (X7.dk.put npd).mono (by omega)⟩
        · rcases List.mem_append.mp hx with z | z
          · exact ok x z
          · rw [List.mem_singleton.mp z]
            exact lok
        · unfold NamesAt
          rw [upd_same, List.map_append, List.map_append]
          rfl
        · rw [upd_ne ntp.symm]
          exact X7.tt
        · exact .nil
      · obtain ⟨x7, ls, rfl, hl, nd, ok, X0⟩ := hP
        exact ⟨x7, ls, rfl, by omega, nd, ok, X0.mono (by omega)⟩
    obtain ⟨x7, ls, rfl, hl, nd, ok, X1⟩ := hM
    -- order
    refine ⟨_, rfl, (many : Int), rfl, RgOk.of_le (by omega) (by omega) (by omega) (by omega), fun o no => ?_⟩
    rw [rgV_nat]
    have X2 := X1.new (o := .lst ((List.range many).map iV)) no
    have od : o ≠ d := X1.dk.nd no
    have o0 : H o = none := X1.sm.free no od
    have op : o ≠ p := (ne_of_none X1.nm no).symm
    have ot : o ≠ t := (ne_of_none X1.tt no).symm
    refine ⟨fun σ' H' => ∃ (x7 : Option V) (o : Addr) (js : List Nat), σ' = [some (.ref d), some (.int most), some (.int many), some (.int shape), some (.int kind), some (.ref p), some (.ref t), x7, some (.ref o), none, none, none] ∧ o ≠ d ∧ o ≠ p ∧ o ≠ t ∧ H o = none ∧ js.Perm (List.range ls.length) ∧ H' o = some (.lst (js.map iV)) ∧ Tr H H' d p t (n + 640) ls [] [], ?_, fun σ' H' hM => ?_⟩
    · refine ⟨_, rfl, d, _, 3, rfl, X2.dk, by omega, by decide, by decide, fun H7 r7 r70 r71 S7 D7 => ?_⟩
      have X7 := X2.step npd ntd S7 D7
      have ho7 : H7 o = some (.lst ((List.range many).map iV)) := S7 o _ od upd_same
      refine ⟨_, _, rfl, rfl, _, rfl, ?_⟩
      refine ite2 (fun e => ?_) (fun e => ?_)
      · refine ⟨_, rfl, (many : Int), rfl, by omega, by omega, fun D nD => ?_⟩
        have Dd := X7.dk.nd nD
        have D0 : H D = none := X7.sm.free nD Dd
        have Dp' : D ≠ p := (ne_of_none X7.nm nD).symm
        have DNt : D ≠ t := (ne_of_none X7.tt nD).symm
        have Do : D ≠ o := (ne_of_none ho7 nD).symm
        refine lc_range (lo := 0) (n := (many : Int).toNat) (fun i H'' => ∃ l1 l2 : List Nat, l1.length = i ∧ (l1 ++ l2).Perm (List.range many) ∧ H'' D = some (.lst (l1.map iV)) ∧ H'' o = some (.lst (l2.map iV)) ∧ Tr H H'' d p t (n + 6 + 20 * many + i) ls [] [])
          ⟨[], List.range many, rfl, List.Perm.refl _, upd_same, by rw [upd_ne Do.symm]; exact ho7, (X7.new nD).mono (by omega)⟩ (fun i H'' hi hP => ?_) (fun H'' hP => ?_)
        · obtain ⟨l1, l2, hl1, pm, hDD, ho, X3⟩ := hP
          have ll := pm.length_eq
          rw [List.length_append, List.length_range] at ll
          refine ⟨rfl, _, rfl, .inl ⟨rfl, _, SqL.of ho⟩, _, rfl, _, rfl, .ref o, _, rfl, .inl ⟨_, SqL.of ho, rfl⟩, d, _, _, rfl, X3.dk, by omega, by rw [List.length_map]; omega, by rw [List.length_map]; omega, fun H8 r r0 r1 S8 D8 => ?_⟩
          have X8 := X3.step npd ntd S8 D8
          have hD8 := S8 D _ Dd hDD
          have ho8 := S8 o _ od ho
          rw [List.length_map] at r1
          have hx : l2[r.toNat]? = some (l2[r.toNat]'(by omega)) := List.getElem?_eq_getElem (by omega)
          generalize l2[r.toNat]'(by omega) = x at hx
          have hx' : (l2.map iV)[r.toNat]? = some (iV x) := by
            rw [List.getElem?_map, hx]
            rfl
          refine ⟨o, _, r, r.toNat, iV x, rfl, rfl, ho8, by omega, by omega, seq_ix r0 (by rw [List.length_map]; exact r1), hx', ?_⟩
          have X9 := X8.put (o := .lst ((l2.map iV).eraseIdx r.toNat)) op ot od o0 ho8
          have hD9 : (upd H8 o (.lst ((l2.map iV).eraseIdx r.toNat))) D = some (.lst (l1.map iV)) := by
            rw [upd_ne Do]
            exact hD8
          refine ⟨_, hD9, by rw [List.length_map]; exact sz_lt (by omega), l1 ++ [x], l2.eraseIdx r.toNat, by rw [List.length_append, hl1]; rfl, perm_pick pm hx, ?_, ?_, X9.put Dp' DNt Dd D0 hD9⟩
          · rw [upd_same, List.map_append]
            rfl
          · rw [upd_ne Do.symm, upd_same, map_erase]
        · obtain ⟨l1, l2, hl1, pm, hDD, ho, X3⟩ := hP
          have ll := pm.length_eq
          rw [List.length_append, List.length_range] at ll
          have e2 : l2 = [] := List.length_eq_zero_iff.mp (by omega)
          subst e2
          rw [List.append_nil] at pm
          exact ⟨_, D, l1, rfl, Dd, Dp', DNt, D0, by rw [hl]; exact pm, hDD, X3.mono (by omega)⟩
      · exact ⟨_, o, List.range many, rfl, od, op, ot, o0, by rw [hl], ho7, X7.mono (by omega)⟩
    clear x7 X1 X2 no od o0 op ot
    clear o
    obtain ⟨x7, o, js, rfl, od, op, ot, o0, pj, ho, X1⟩ := hM
    have pos := inOrd_perm pj
    have ol : (inOrd ls js).length = many := by rw [pos.length_eq, hl]
    have ond : (inOrd ls js).Nodup := pos.nodup_iff.mpr nd
    -- the ties
    refine ⟨fun σ' H' => ∃ (x7 x9 x10 x11 : Option V) (tvs : List V) (ts es : List Tie), σ' = [some (.ref d), some (.int most), some (.int many), some (.int shape), some (.int kind), some (.ref p), some (.ref t), x7, some (.ref o), x9, x10, x11] ∧ Grown (inOrd ls js) es ∧ ts.Perm es ∧ Tr H H' d p t (n + 1000) ls tvs ts, ?_, fun σ' H' hM => ?_⟩
    · refine ⟨_, rfl, 1, many, rfl, ⟨by decide, by decide, by omega, by omega⟩, ?_⟩
      refine for_range (lo := 1) (n := ((many : Int) - 1).toNat) (fun i σ' H' => ∃ (x7 x9 x10 x11 : Option V) (tvs : List V) (ts es : List Tie), σ' = [some (.ref d), some (.int most), some (.int many), some (.int shape), some (.int kind), some (.ref p), some (.ref t), x7, some (.ref o), x9, x10, x11] ∧ Grown ((inOrd ls js).take (i + 1)) es ∧ ts.Perm es ∧ H' o = some (.lst (js.map iV)) ∧ Tr H H' d p t (n + 640 + 8 * i) ls tvs ts) ⟨_, _, _, _, [], [], [], rfl, ?_, List.Perm.refl _, ho, X1⟩ (fun i σ' H' hi hP => ?_) (fun σ' H' hP => ?_)
      · cases hos : inOrd ls js with
        | nil => rw [hos] at ol; simp at ol; omega
        | cons a r => exact Grown.one a
      · obtain ⟨x7, x9, x10, x11, tvs, ts, es, rfl, hG, pm, ho0, X0⟩ := hP
        have hi' : i + 1 < many := by omega
        -- near
        refine ⟨_, rfl, _, _, rfl, rfl, _, rfl, _, rfl, _, _, rfl, d, _, _, rfl, X0.dk, by omega, by split <;> omega, by split <;> omega, fun H7 nr nr0 nr1 S7 D7 => ⟨_, _, rfl, rfl, ?_⟩⟩
        have nr2 : nr < 1 + (i : Int) := by split at nr1 <;> omega
        have X7 := X0.step npd ntd S7 D7
        have ho7 := S7 o _ od ho0
        -- at
        refine ⟨_, rfl, _, _, rfl, rfl, _, rfl, _, _, rfl, rfl, (by show (0 : Int) < _; decide), ?_⟩
        refine ⟨_, rfl, _, _, rfl, rfl, .inr ⟨_, rfl, ?_⟩⟩
        refine ⟨_, _, rfl, rfl, .inl ⟨by omega, by omega⟩, _, rfl, _, rfl, _, rfl, d, _, _, rfl, X7.dk, by omega, by omega, by omega, fun H8 a a0 a1 S8 D8 => ?_⟩
        have X8 := X7.step npd ntd S8 D8
        have ho8 := S8 o _ od ho7
        refine ⟨_, rfl, _, _, rfl, rfl, _, rfl, _, _, rfl, rfl, (by show (0 : Int) < _; decide), _, _, rfl, rfl, _, _, rfl, (by show 6 ≤ sizeLine; decide), fun p8 np8 => ?_⟩
        have X9 := X8.new (o := .lst [V.int (1 + (i : Int) - 1), .int 0, .int ((1 + (i : Int)) % 2 * if decide (1 + (i : Int) > 1) = true then 1 else 0), .int (1 + (i : Int) - 1 - nr), .int a, .int (if 1 + (i : Int) - 1 - (1 + (i : Int)) % 2 > 0 then 1 + (i : Int) - 1 - (1 + (i : Int)) % 2 else 0)]) np8
        obtain ⟨v, hv, mv⟩ := atI_in (xs := [V.int (1 + (i : Int) - 1), .int 0, .int ((1 + (i : Int)) % 2 * if decide (1 + (i : Int) > 1) = true then 1 else 0), .int (1 + (i : Int) - 1 - nr), .int a, .int (if 1 + (i : Int) - 1 - (1 + (i : Int)) % 2 > 0 then 1 + (i : Int) - 1 - (1 + (i : Int)) % 2 else 0)]) w0 (by simpa using w1)
        have hs : ∃ m : Nat, v = .int m ∧ m < i + 1 := by
          simp only [List.mem_cons, List.not_mem_nil, or_false] at mv
          rcases mv with e | e | e | e | e | e
          · exact ⟨i, by rw [e]; congr 1; omega, by omega⟩
          · exact ⟨0, e, by omega⟩
          · by_cases z : decide (1 + (i : Int) > 1) = true
            · rw [if_pos z, Int.mul_one] at e
              have z := of_decide_eq_true z
              exact ⟨((1 + (i : Int)) % 2).toNat, by rw [e, Int.toNat_of_nonneg (by omega)], by omega⟩
            · rw [if_neg z, Int.mul_zero] at e
              exact ⟨0, e, by omega⟩
          · exact ⟨(1 + (i : Int) - 1 - nr).toNat, by rw [e, Int.toNat_of_nonneg (by omega)], by omega⟩
          · exact ⟨a.toNat, by rw [e]; congr 1; omega, by omega⟩
          · by_cases z : 1 + (i : Int) - 1 - (1 + (i : Int)) % 2 > 0
            · rw [if_pos z] at e
              exact ⟨(1 + (i : Int) - 1 - (1 + (i : Int)) % 2).toNat, by rw [e]; congr 1; omega, by omega⟩
            · rw [if_neg z] at e
              exact ⟨0, e, by omega⟩
        obtain ⟨at', rfl, hat⟩ := hs
        refine ⟨_, rfl, p8, _, shape, _, rfl, rfl, SqL.of upd_same, hv, ?_⟩
        have ho9 : ∀ O, (upd H8 p8 O) o = some (.lst (js.map iV)) := fun O => by
          rw [upd_ne (ne_of_none ho8 np8)]
          exact ho8
        -- pair
        obtain ⟨ja, xa, ga, na, oa⟩ := inOrd_at pj (a := at') (by omega)
        obtain ⟨jk, xk, gk, nk, ok'⟩ := inOrd_at pj (a := i + 1) (by omega)
        have ek : 1 + (i : Int) = ((i + 1 : Nat) : Int) := by omega
        refine ⟨_, rfl, _, rfl, _, rfl, o, _, at', _, rfl, rfl, SqL.of (ho9 _), atI_nat ga, p, _, ja, _, rfl, rfl, SqL.of X9.nm, atI_nat na, ?_⟩
        refine ⟨_, rfl, _, rfl, _, rfl, o, _, 1 + (i : Int), _, rfl, rfl, SqL.of (ho9 _), by rw [ek]; exact atI_nat gk, p, _, jk, _, rfl, rfl, SqL.of X9.nm, atI_nat nk, (by show 2 ≤ sizeLine; decide), fun q1 nq1 => ?_⟩
        have X10 := X9.new (o := .lst [.str (S xa), .str (S xk)]) nq1
        refine ⟨_, rfl, (by show 2 ≤ sizeLine; decide), fun q2 nq2 => ?_⟩
        have X11 := X10.new (o := .lst [.int 1, .int (-1)]) nq2
        refine ⟨_, rfl, d, _, 2, rfl, X11.dk, by omega, by decide, by decide, fun H12 b b0 b1 S12 D12 => ?_⟩
        have X12 := X11.step npd ntd S12 D12
        have hq1 : H12 q1 = some (.lst [.str (S xa), .str (S xk)]) := S12 q1 _ (X9.dk.nd nq1) (by rw [upd_ne (ne_of_none upd_same nq2)]; exact upd_same)
        have hq2 : H12 q2 = some (.lst [.int 1, .int (-1)]) := S12 q2 _ (X10.dk.nd nq2) upd_same
        have ho12 : H12 o = some (.lst (js.map iV)) := S12 o _ od (by rw [upd_ne (ne_of_none (by rw [upd_ne (ne_of_none (ho9 _) nq1)]; exact ho9 _) nq2), upd_ne (ne_of_none (ho9 _) nq1)]; exact ho9 _)
        obtain ⟨v, hv, mv⟩ := atI_in (xs := [V.int 1, .int (-1)]) b0 (by simpa using b1)
        have hs : ∃ z : Int, v = .int z ∧ (z = 1 ∨ z = -1) := by
          simp only [List.mem_cons, List.not_mem_nil, or_false] at mv
          rcases mv with e | e
          · exact ⟨1, e, .inl rfl⟩
          · exact ⟨-1, e, .inr rfl⟩
        obtain ⟨z, rfl, hz⟩ := hs
        refine ⟨q2, _, b, _, rfl, rfl, SqL.of hq2, hv, z, rfl, q1, _, z, rfl, rfl, hz, SqL.of hq1, fun q3 nq3 => ?_⟩
        obtain ⟨ya, yb, ey, hab⟩ : ∃ ya yb : Nm, (if z = 1 then [V.str (S xa), .str (S xk)] else [V.str (S xa), .str (S xk)].reverse) = [.str (S ya), .str (S yb)] ∧ ((ya = xa ∧ yb = xk) ∨ (ya = xk ∧ yb = xa)) := by
          rcases hz with z1 | z1
          · exact ⟨xa, xk, by rw [if_pos z1], .inl ⟨rfl, rfl⟩⟩
          · exact ⟨xk, xa, by rw [if_neg (by rw [z1]; decide)]; rfl, .inr ⟨rfl, rfl⟩⟩
        rw [ey]
        have X13 := X12.new (o := .lst [.str (S ya), .str (S yb)]) nq3
        have ho13 : (upd H12 q3 (.lst [.str (S ya), .str (S yb)])) o = some (.lst (js.map iV)) := by
          rw [upd_ne (ne_of_none ho12 nq3)]
          exact ho12
        have tl : tvs.length = ts.length := by
          have := DtAll.len X13.al
          rwa [List.length_map] at this
        have gl := hG.len
        rw [List.length_take] at gl
        have pl := pm.length_eq
        -- ties.insert
        refine ⟨_, rfl, .inl ⟨rfl, _, SqL.of X13.tt⟩, _, rfl, _, rfl, t, _, rfl, .inl (SqL.of X13.tt), _, _, rfl, rfl, d, _, _, rfl, X13.dk, by omega, by omega, by omega, fun H14 r r0 r1 S14 D14 => ?_⟩
        have X14 := X13.step npd ntd S14 D14
        have hq3 : H14 q3 = some (.lst [.str (S ya), .str (S yb)]) := S14 q3 _ (X12.dk.nd nq3) upd_same
        have ho14 := S14 o _ od ho13
        refine ⟨_, rfl, q3, _, 0, _, rfl, rfl, SqL.of hq3, rfl, _, rfl, q3, _, 1, _, rfl, rfl, SqL.of hq3, rfl, ?_⟩
        refine ⟨_, rfl, _, rfl, d, _, kind, rfl, X14.dk, by omega, g0, g1, fun H15 lg l0 l1 S15 D15 => ?_⟩
        have X15 := X14.step npd ntd S15 D15
        have ho15 := S15 o _ od ho14
        refine ⟨(by show 3 ≤ sizeLine; decide), fun e4 ne4 => ?_⟩
        have X16 := X15.new (o := .tup [.str (S ya), .str (S yb), .int lg]) ne4
        have ho16 : (upd H15 e4 (.tup [.str (S ya), .str (S yb), .int lg])) o = some (.lst (js.map iV)) := by
          rw [upd_ne (ne_of_none ho15 ne4)]
          exact ho15
        refine ⟨t, tvs, r, _, rfl, rfl, X16.tt, sz_lt (by omega), r0, by omega, ?_⟩
        have tk : TK (upd H15 e4 (.tup [.str (S ya), .str (S yb), .int lg])) (upd (upd H15 e4 (.tup [.str (S ya), .str (S yb), .int lg])) t (.lst (tvs.take r.toNat ++ [.ref e4] ++ tvs.drop r.toNat))) := TK.mut X16.tt
        refine ⟨_, _, _, _, tvs.take r.toNat ++ [.ref e4] ++ tvs.drop r.toNat, ts.take r.toNat ++ [(ya, yb, lg)] ++ ts.drop r.toNat, es ++ [(ya, yb, lg)], rfl, ?_, perm_insert _ pm, ?_, ?_, upd_same, ?_, X16.sm.put nt0, (X16.dk.put ntd).mono (by omega)⟩
        · have e5 : (inOrd ls js).take (i + 1 + 1) = (inOrd ls js).take (i + 1) ++ [xk] := by
            rw [List.take_add_one, ok']
            rfl
          rw [e5]
          obtain ⟨la, ea⟩ := List.getElem?_eq_some_iff.mp oa
          obtain ⟨lk, ek'⟩ := List.getElem?_eq_some_iff.mp ok'
          refine Grown.leaf (a := xa) (k := lg) hG ?_ ?_ ?_ (by omega) (by omega)
          · exact List.mem_take_iff_getElem.mpr ⟨at', by omega, ea⟩
          · intro hm
            obtain ⟨j, hj, ej⟩ := List.mem_take_iff_getElem.mp hm
            have := (List.getElem_inj ond).mp (ej.trans ek'.symm)
            omega
          · rcases hab with ⟨z1, z2⟩ | ⟨z1, z2⟩ <;> rw [z1, z2]
            · exact .inl rfl
            · exact .inr rfl
        · rw [upd_ne ot]
          exact ho16
        · unfold NamesAt
          rw [upd_ne ntp]
          exact X16.nm
        · have := DtAll.ins r.toNat (DtAll.keep tk X16.al) (v := .ref e4) (d := tieD (ya, yb, lg)) (.tup (tk.tup _ _ upd_same) (.cons (.str _) (.cons (.str _) (.cons (.int _) .nil))))
          rw [List.map_append, List.map_append, List.map_take, List.map_drop]
          exact this
      · obtain ⟨x7, x9, x10, x11, tvs, ts, es, rfl, hG, pm, ho0, X0⟩ := hP
        refine ⟨_, _, _, _, tvs, ts, es, rfl, ?_, pm, X0.mono (by omega)⟩
        rwa [List.take_of_length_le (by omega)] at hG
    · obtain ⟨x7, x9, x10, x11, tvs, ts, es, rfl, hG, pm, X0⟩ := hM
      refine ⟨_, rfl, p, _, rfl, SqL.of X0.nm, fun q1 o1 nq1 od1 => ?_⟩
      have X6 := X0.new (o := .frz o1 (.tup ((ls.map S).map V.str))) nq1
      refine ⟨_, rfl, .inl ⟨t, tvs, rfl, SqL.of X6.tt, fun q2 nq2 => ?_⟩⟩
      have X7 := X6.new (o := .tup tvs) nq2
      refine ⟨(by show 2 ≤ sizeLine; decide), fun q3 nq3 => ?_⟩
      have X8 := X7.new (o := .tup [.ref q1, .ref q2]) nq3
      have it : IsTree ls ts := ⟨inOrd ls js, es, hG, pos.symm, pm⟩
      have plne : ls ≠ [] := fun z => by
        have := it.len
        rw [z] at this
        simp at this
      have hz := ((TK.new nq2).trans (TK.new (o := .tup [.ref q1, .ref q2]) nq3)).frz _ _ _ (upd_same (H := _) (a := q1) (o := .frz o1 (.tup ((ls.map S).map V.str))))
      exact q _ q3 ls ts it ok (by omega) (.tup upd_same (.cons (.tupZ rfl plne od1 hz) (.cons (.tup ((TK.new nq3).tup _ _ upd_same) X8.al) .nil))) ⟨q3, q1, q2, o1, rfl, upd_same, od1, hz⟩ X8.sm X8.dk
end
end Far

namespace Far
open PySem
open SX (S)
/-! ### ways in a tree -/
def Adj (ts : List Tie) (u v : Nm) (k : Int) : Prop := (u, v, k) ∈ ts ∨ (v, u, k) ∈ ts
theorem Adj.symm {ts : List Tie} {u v : Nm} {k : Int} (h : Adj ts u v k) : Adj ts v u k := h.elim .inr .inl
theorem Adj.perm {ts ts' : List Tie} {u v : Nm} {k : Int} (p : ts.Perm ts') (h : Adj ts u v k) : Adj ts' u v k := h.elim (fun h => .inl (p.mem_iff.mp h)) fun h => .inr (p.mem_iff.mp h)
/-- from u to v, no place twice: the places, the length -/
inductive Way (ts : List Tie) (u : Nm) : Nm → List Nm → Int → Prop
  | nil : Way ts u u [u] 0
  | snoc {v w : Nm} {p : List Nm} {L k : Int} : Way ts u v p L → Adj ts v w k → w ∉ p → Way ts u w (p ++ [w]) (L + k)
theorem Way.perm {ts ts' : List Tie} (q : ts.Perm ts') {u v : Nm} {p : List Nm} {L : Int} (h : Way ts u v p L) : Way ts' u v p L := by
  induction h with
  | nil => exact .nil
  | snoc _ ha hn ih => exact .snoc ih (ha.perm q) hn
theorem Way.last {ts : List Tie} {u v : Nm} {p : List Nm} {L : Int} (h : Way ts u v p L) : ∃ q, p = q ++ [v] := by
  cases h with
  | nil => exact ⟨[], rfl⟩
  | snoc _ _ _ => exact ⟨_, rfl⟩
theorem Way.mem {ts : List Tie} {u v : Nm} {p : List Nm} {L : Int} (h : Way ts u v p L) : v ∈ p := by
  obtain ⟨q, rfl⟩ := h.last
  simp
theorem Way.first {ts : List Tie} {u v : Nm} {p : List Nm} {L : Int} (h : Way ts u v p L) : ∃ q, p = u :: q := by
  induction h with
  | nil => exact ⟨[], rfl⟩
  | snoc _ _ _ ih =>
    obtain ⟨q, rfl⟩ := ih
    exact ⟨q ++ [_], rfl⟩
theorem Way.nodup {ts : List Tie} {u v : Nm} {p : List Nm} {L : Int} (h : Way ts u v p L) : p.Nodup := by
  induction h with
  | nil => simp
  | snoc _ _ hn ih => exact nd_snoc' ih hn
theorem Way.inside {ts : List Tie} {pl : List Nm} (ht : ∀ e ∈ ts, e.1 ∈ pl ∧ e.2.1 ∈ pl) {u v : Nm} {p : List Nm} {L : Int} (h : Way ts u v p L) (hu : u ∈ pl) : ∀ x ∈ p, x ∈ pl := by
  induction h with
  | nil =>
    intro x hx
    rw [List.mem_singleton.mp hx]
    exact hu
  | snoc _ ha _ ih =>
    intro x hx
    rcases List.mem_append.mp hx with z | z
    · exact ih x z
    · rw [List.mem_singleton.mp z]
      rcases ha with h | h
      · exact (ht _ h).2
      · exact (ht _ h).1
/-- a place on the way is come to by a way of its own -/
theorem Way.upto {ts : List Tie} {u v x : Nm} {p : List Nm} {L : Int} (h : Way ts u v p L) (hx : x ∈ p) : ∃ q M, Way ts u x q M ∧ ∀ y ∈ q, y ∈ p := by
  induction h with
  | nil =>
    rw [List.mem_singleton.mp hx]
    exact ⟨_, _, .nil, fun _ h => h⟩
  | snoc h1 ha hn ih =>
    rcases List.mem_append.mp hx with z | z
    · obtain ⟨q, M, hq, hs⟩ := ih z
      exact ⟨q, M, hq, fun y hy => List.mem_append_left _ (hs y hy)⟩
    · rw [List.mem_singleton.mp z]
      exact ⟨_, _, .snoc h1 ha hn, fun _ h => h⟩
section leaf
variable {os : List Nm} {es : List Tie} {a b : Nm} {k : Int} {e0 : Tie}
theorem adj_new (hb : ∀ e ∈ es, e.1 ≠ b ∧ e.2.1 ≠ b) (ab : a ≠ b) (he : e0 = (a, b, k) ∨ e0 = (b, a, k)) {x y : Nm} {m : Int} (h : Adj (es ++ [e0]) x y m) :
    (Adj es x y m ∧ x ≠ b ∧ y ≠ b) ∨ (x = a ∧ y = b ∧ m = k) ∨ (x = b ∧ y = a ∧ m = k) := by
  rcases h with h | h <;> rcases List.mem_append.mp h with z | z
  · exact .inl ⟨.inl z, hb _ z⟩
  · have z := List.mem_singleton.mp z
    rcases he with e | e <;> rw [e] at z <;> cases z
    · exact .inr (.inl ⟨rfl, rfl, rfl⟩)
    · exact .inr (.inr ⟨rfl, rfl, rfl⟩)
  · exact .inl ⟨.inr z, (hb _ z).2, (hb _ z).1⟩
  · have z := List.mem_singleton.mp z
    rcases he with e | e <;> rw [e] at z <;> cases z
    · exact .inr (.inr ⟨rfl, rfl, rfl⟩)
    · exact .inr (.inl ⟨rfl, rfl, rfl⟩)
theorem way_old (hb : ∀ e ∈ es, e.1 ≠ b ∧ e.2.1 ≠ b) (ab : a ≠ b) (he : e0 = (a, b, k) ∨ e0 = (b, a, k)) {u v : Nm} {p : List Nm} {L : Int} (h : Way (es ++ [e0]) u v p L) (hu : u ≠ b) :
    (v ≠ b ∧ b ∉ p ∧ Way es u v p L) ∨ (v = b ∧ ∃ q M, p = q ++ [b] ∧ L = M + k ∧ Way es u a q M) := by
  induction h with
  | nil => exact .inl ⟨hu, fun z => hu (List.mem_singleton.mp z).symm, .nil⟩
  | @snoc v w p L m h1 ha hn ih =>
    rcases ih with ⟨hv, hbp, hw⟩ | ⟨hv, q, M, hp, _, hq⟩
    · rcases adj_new hb ab he ha with ⟨ha, _, wb⟩ | ⟨e1, e2, e3⟩ | ⟨e1, _, _⟩
      · refine .inl ⟨wb, fun z => ?_, .snoc hw ha hn⟩
        rcases List.mem_append.mp z with z | z
        · exact hbp z
        · exact wb (List.mem_singleton.mp z).symm
      · subst e1 e2 e3
        exact .inr ⟨rfl, p, L, rfl, rfl, hw⟩
      · exact absurd e1 hv
    · rcases adj_new hb ab he ha with ⟨_, vb, _⟩ | ⟨e1, _, _⟩ | ⟨_, e2, _⟩
      · exact absurd hv vb
      · exact absurd (e1.symm.trans hv) ab
      · refine absurd ?_ hn
        rw [e2, hp]
        exact List.mem_append_left _ hq.mem
theorem way_from (hb : ∀ e ∈ es, e.1 ≠ b ∧ e.2.1 ≠ b) (ab : a ≠ b) (he : e0 = (a, b, k) ∨ e0 = (b, a, k)) {v : Nm} {p : List Nm} {L : Int} (h : Way (es ++ [e0]) b v p L) :
    (v = b ∧ p = [b] ∧ L = 0) ∨ (v ≠ b ∧ ∃ q M, p = b :: q ∧ L = k + M ∧ Way es a v q M) := by
  induction h with
  | nil => exact .inl ⟨rfl, rfl, rfl⟩
  | @snoc v w p L m h1 ha hn ih =>
    rcases ih with ⟨hv, hp, hL⟩ | ⟨hv, q, M, hp, hL, hq⟩
    · rcases adj_new hb ab he ha with ⟨_, vb, _⟩ | ⟨e1, _, _⟩ | ⟨_, e2, e3⟩
      · exact absurd hv vb
      · exact absurd (e1.symm.trans hv) ab
      · subst e2 e3 hp hL
        exact .inr ⟨ab, [w], 0, rfl, by omega, .nil⟩
    · have wb : w ≠ b := fun z => hn (by rw [z, hp]; simp)
      rcases adj_new hb ab he ha with ⟨ha, _, _⟩ | ⟨_, e2, _⟩ | ⟨e1, _, _⟩
      · subst hp hL
        exact .inr ⟨wb, q ++ [w], M + m, rfl, by omega, .snoc hq ha fun z => hn (List.mem_cons.mpr (.inr z))⟩
      · exact absurd e2 wb
      · exact absurd e1 hv
end leaf
theorem Grown.one_way {os : List Nm} {es : List Tie} (g : Grown os es) : ∀ {u v : Nm} {p q : List Nm} {L M : Int}, Way es u v p L → Way es u v q M → p = q ∧ L = M := by
  induction g with
  | one a =>
    intro u v p q L M h1 h2
    cases h1 with
    | nil =>
      cases h2 with
      | nil => exact ⟨rfl, rfl⟩
      | snoc _ ha _ => rcases ha with h | h <;> cases h
    | snoc _ ha _ => rcases ha with h | h <;> cases h
  | @leaf os es a b k e0 g ha hbn he k1 k2 ih =>
    intro u v p q L M h1 h2
    have hb : ∀ e ∈ es, e.1 ≠ b ∧ e.2.1 ≠ b := fun e hm => by
      obtain ⟨i1, i2, _⟩ := g.ties e hm
      exact ⟨fun z => hbn (z ▸ i1), fun z => hbn (z ▸ i2)⟩
    have ab : a ≠ b := fun z => hbn (z ▸ ha)
    by_cases hu : u = b
    · subst hu
      rcases way_from hb ab he h1 with ⟨v1, p1, l1⟩ | ⟨v1, p1, l1, e1, e2, w1⟩ <;> rcases way_from hb ab he h2 with ⟨v2, p2, l2⟩ | ⟨v2, p2, l2, e3, e4, w2⟩
      · exact ⟨p1.trans p2.symm, l1.trans l2.symm⟩
      · exact absurd v1 v2
      · exact absurd v2 v1
      · obtain ⟨z1, z2⟩ := ih w1 w2
        rw [e1, e2, e3, e4, z1, z2]
        exact ⟨rfl, rfl⟩
    · rcases way_old hb ab he h1 hu with ⟨v1, _, w1⟩ | ⟨v1, p1, l1, e1, e2, w1⟩ <;> rcases way_old hb ab he h2 hu with ⟨v2, _, w2⟩ | ⟨v2, p2, l2, e3, e4, w2⟩
      · exact ih w1 w2
      · exact absurd v2 v1
      · exact absurd v1 v2
      · obtain ⟨z1, z2⟩ := ih w1 w2
        rw [e1, e2, e3, e4, z1, z2]
        exact ⟨rfl, rfl⟩
theorem IsTree.one_way {pl : List Nm} {ts : List Tie} (h : IsTree pl ts) {u v : Nm} {p q : List Nm} {L M : Int} (h1 : Way ts u v p L) (h2 : Way ts u v q M) : p = q ∧ L = M := by
  obtain ⟨os, es, g, _, p2⟩ := h
  exact g.one_way (h1.perm p2) (h2.perm p2)
/-- what is closed by ties and holds one place holds all -/
theorem Grown.all_of {os : List Nm} {es : List Tie} (g : Grown os es) : ∀ {F : Nm → Prop}, (∃ u ∈ os, F u) → (∀ x y k, F x → Adj es x y k → F y) → ∀ v ∈ os, F v := by
  induction g with
  | one a =>
    intro F ⟨u, hu, hF⟩ _ v hv
    rw [List.mem_singleton.mp hv, ← List.mem_singleton.mp hu]
    exact hF
  | @leaf os es a b k e0 g ha hbn he k1 k2 ih =>
    intro F ⟨u, hu, hF⟩ cl v hv
    have cab : Adj (es ++ [e0]) a b k := by
      rcases he with e | e
      · exact .inl (by rw [e]; simp)
      · exact .inr (by rw [e]; simp)
    have cl' : ∀ x y m, F x → Adj es x y m → F y := fun x y m hx h => cl x y m hx (h.elim (fun z => .inl (List.mem_append_left _ z)) fun z => .inr (List.mem_append_left _ z))
    have start : ∃ w ∈ os, F w := by
      rcases List.mem_append.mp hu with z | z
      · exact ⟨u, z, hF⟩
      · rw [List.mem_singleton.mp z] at hF
        exact ⟨a, ha, cl b a k hF cab.symm⟩
    have old := ih start cl'
    rcases List.mem_append.mp hv with z | z
    · exact old v z
    · rw [List.mem_singleton.mp z]
      exact cl a b k (old a ha) cab
theorem IsTree.all_of {pl : List Nm} {ts : List Tie} (h : IsTree pl ts) {F : Nm → Prop} {u : Nm} (hu : u ∈ pl) (hF : F u) (cl : ∀ x y k, F x → Adj ts x y k → F y) : ∀ v ∈ pl, F v := by
  obtain ⟨os, es, g, p1, p2⟩ := h
  intro v hv
  exact g.all_of ⟨u, p1.mem_iff.mp hu, hF⟩ (fun x y k hx ha => cl x y k hx (ha.perm p2.symm)) v (p1.mem_iff.mp hv)
theorem IsTree.way {pl : List Nm} {ts : List Tie} (h : IsTree pl ts) {u v : Nm} (hu : u ∈ pl) (hv : v ∈ pl) : ∃ p L, Way ts u v p L := by
  refine h.all_of (F := fun v => ∃ p L, Way ts u v p L) hu ⟨_, _, .nil⟩ (fun x y k ⟨p, L, hw⟩ ha => ?_) v hv
  by_cases hy : y ∈ p
  · obtain ⟨q, M, hq, _⟩ := hw.upto hy
    exact ⟨q, M, hq⟩
  · exact ⟨_, _, .snoc hw ha hy⟩
open Classical in
/-- the way and its length -/
noncomputable def wayOf (ts : List Tie) (u v : Nm) : List Nm × Int := if h : ∃ x : List Nm × Int, Way ts u v x.1 x.2 then h.choose else ([], 0)
noncomputable def path (ts : List Tie) (u v : Nm) : List Nm := (wayOf ts u v).1
noncomputable def dist (ts : List Tie) (u v : Nm) : Int := (wayOf ts u v).2
theorem IsTree.is_way {pl : List Nm} {ts : List Tie} (h : IsTree pl ts) {u v : Nm} {p : List Nm} {L : Int} (w : Way ts u v p L) : path ts u v = p ∧ dist ts u v = L := by
  have hx : ∃ x : List Nm × Int, Way ts u v x.1 x.2 := ⟨(p, L), w⟩
  unfold path dist wayOf
  rw [dif_pos hx]
  exact h.one_way hx.choose_spec w
theorem IsTree.the_way {pl : List Nm} {ts : List Tie} (h : IsTree pl ts) {u v : Nm} (hu : u ∈ pl) (hv : v ∈ pl) : Way ts u v (path ts u v) (dist ts u v) := by
  obtain ⟨p, L, w⟩ := h.way hu hv
  obtain ⟨e1, e2⟩ := h.is_way w
  rw [e1, e2]
  exact w
/-- the way back -/
theorem Way.cons {ts : List Tie} {u v w : Nm} {p : List Nm} {L k : Int} (ha : Adj ts w u k) (h : Way ts u v p L) (hn : w ∉ p) : Way ts w v (w :: p) (k + L) := by
  induction h with
  | nil =>
    have := Way.snoc (ts := ts) (u := w) .nil ha (by simpa using fun z => hn (by rw [z]; simp))
    simpa using this
  | @snoc v x p L m h1 hb hx ih =>
    have hn1 : w ∉ p := fun z => hn (List.mem_append_left _ z)
    have hxw : x ∉ w :: p := fun z => by
      rcases List.mem_cons.mp z with z | z
      · exact hn (by rw [z]; simp)
      · exact hx z
    have := Way.snoc (ih hn1) hb hxw
    rw [← Int.add_assoc]
    exact this
theorem Way.rev {ts : List Tie} {u v : Nm} {p : List Nm} {L : Int} (h : Way ts u v p L) : Way ts v u p.reverse L := by
  induction h with
  | nil => exact .nil
  | @snoc v w p L k h1 ha hn ih =>
    rw [List.reverse_append]
    have := Way.cons ha.symm ih (fun z => hn (List.mem_reverse.mp z))
    rw [Int.add_comm L k]
    exact this
theorem IsTree.dist_symm {pl : List Nm} {ts : List Tie} (h : IsTree pl ts) {u v : Nm} (hu : u ∈ pl) (hv : v ∈ pl) : dist ts u v = dist ts v u ∧ path ts v u = (path ts u v).reverse := by
  obtain ⟨e1, e2⟩ := h.is_way (h.the_way hu hv).rev
  exact ⟨e2.symm, e1⟩
theorem IsTree.dist_self {pl : List Nm} {ts : List Tie} (h : IsTree pl ts) (u : Nm) : dist ts u u = 0 ∧ path ts u u = [u] := by
  obtain ⟨e1, e2⟩ := h.is_way (u := u) .nil
  exact ⟨e2, e1⟩
theorem Way.nonneg {ts : List Tie} (hk : ∀ e ∈ ts, 1 ≤ e.2.2) {u v : Nm} {p : List Nm} {L : Int} (h : Way ts u v p L) : 0 ≤ L ∧ (p.length : Int) ≤ L + 1 := by
  induction h with
  | nil => simp
  | @snoc v w p L k _ ha _ ih =>
    have h1 : 1 ≤ k := ha.elim (fun z => hk _ z) fun z => hk _ z
    rw [List.length_append, List.length_singleton]
    omega
section
open PySem.Spec PyProof.Rows L2
/-! ### dicts by places -/
def dkm (fs : List Nm) (f : Nm → V) : List (Key × V) := fs.map fun l => (Sum.inr (S l), f l)
theorem dkm_get {f : Nm → V} {x : Nm} : ∀ {fs : List Nm}, x ∈ fs → valV (dkm fs f) (Sum.inr (S x)) = some (f x)
  | [], h => by simp at h
  | a :: r, h => by
    show valV ((Sum.inr (S a), f a) :: dkm r f) _ = _
    by_cases e : a = x
    · subst e
      exact valV_pos rfl
    · rw [valV_neg (fun z => e (SX.S_inj (Sum.inr.inj z)))]
      refine dkm_get ?_
      rcases List.mem_cons.mp h with z | z
      · exact absurd z.symm e
      · exact z
theorem dkm_no {f : Nm → V} {x : Nm} : ∀ {fs : List Nm}, x ∉ fs → valV (dkm fs f) (Sum.inr (S x)) = none
  | [], _ => rfl
  | a :: r, h => by
    show valV ((Sum.inr (S a), f a) :: dkm r f) _ = _
    rw [valV_neg (fun z => h (List.mem_cons.mpr (.inl (SX.S_inj (Sum.inr.inj z)).symm)))]
    exact dkm_no fun z => h (List.mem_cons.mpr (.inr z))
theorem dkm_cong {f g : Nm → V} {fs : List Nm} (h : ∀ x ∈ fs, f x = g x) : dkm fs f = dkm fs g := List.map_congr_left fun a ha => by rw [h a ha]
theorem dkm_new {f : Nm → V} {x : Nm} {v : V} {fs : List Nm} (h : x ∉ fs) : putK (dkm fs f) (Sum.inr (S x)) v = dkm (fs ++ [x]) (fun z => if z = x then v else f z) := by
  rw [putK_new _ (dkm_no h)]
  unfold dkm
  rw [List.map_append]
  have e : fs.map (fun l => ((Sum.inr (S l) : Key), f l)) = fs.map (fun l => ((Sum.inr (S l) : Key), if l = x then v else f l)) := List.map_congr_left fun a ha => by rw [if_neg (fun (z : a = x) => h (z ▸ ha))]
  rw [e]
  show _ = _ ++ [((Sum.inr (S x) : Key), if x = x then v else f x)]
  rw [if_pos rfl]
theorem dkm_some {f : Nm → V} {x : Nm} {fs : List Nm} : (valV (dkm fs f) (Sum.inr (S x))).isSome = decide (x ∈ fs) := by
  by_cases h : x ∈ fs
  · rw [dkm_get h, decide_eq_true h]
    rfl
  · rw [dkm_no h, decide_eq_false h]
    rfl
theorem tkD {H : Hp} {D : Addr} {kvs : List (Key × V)} {o : HO} (h : H D = some (.dK kvs)) : TK H (upd H D o) :=
  ⟨fun b xs z => by rw [upd_ne (ne_of z h (by intro q; cases q))]; exact z, fun b u xs z => by rw [upd_ne (ne_of z h (by intro q; cases q))]; exact z⟩
/-! ### a walk through a tree: fs come to, st to be gone on from, ex being gone on from -/
structure Wk (pl : List Nm) (ts : List Tie) (u : Nm) (fs st : List Nm) (prev : Nm → Nm) (ex : Nm → Prop) : Prop where
  nd : fs.Nodup
  sub : ∀ x ∈ fs, x ∈ pl
  sti : ∀ x ∈ st, x ∈ fs
  hu : u ∈ fs
  cl : ∀ x ∈ fs, ∀ y ∈ path ts u x, y ∈ fs
  pr : ∀ x ∈ fs, x ≠ u → prev x ∈ fs ∧ path ts u x = path ts u (prev x) ++ [x]
  done : ∀ x ∈ fs, x ∉ st → ¬ ex x → ∀ y k, Adj ts x y k → y ∈ fs
theorem Wk.start {pl : List Nm} {ts : List Tie} (h : IsTree pl ts) {u : Nm} (hu : u ∈ pl) : Wk pl ts u [u] [u] (fun _ => u) (fun _ => False) := by
  refine ⟨by simp, fun x hx => ?_, fun x hx => hx, by simp, fun x hx => ?_, fun x hx n => ?_, fun x hx n => absurd hx n⟩
  · rw [List.mem_singleton.mp hx]
    exact hu
  · rw [List.mem_singleton.mp hx, (h.dist_self u).2]
    exact fun y hy => hy
  · exact absurd (List.mem_singleton.mp hx) n
theorem Wk.pop {pl : List Nm} {ts : List Tie} {u h : Nm} {fs st : List Nm} {prev : Nm → Nm} (w : Wk pl ts u fs (st ++ [h]) prev (fun _ => False)) : h ∈ fs ∧ Wk pl ts u fs st prev (fun x => x = h) := by
  refine ⟨w.sti h (by simp), w.nd, w.sub, fun x hx => w.sti x (List.mem_append_left _ hx), w.hu, w.cl, w.pr, fun x hx n ne => w.done x hx (fun z => ?_) (fun z => z)⟩
  rcases List.mem_append.mp z with z | z
  · exact n z
  · exact ne (List.mem_singleton.mp z)
theorem Wk.push {pl : List Nm} {ts : List Tie} (tr : IsTree pl ts) {u h y : Nm} {k : Int} {fs st : List Nm} {prev : Nm → Nm} {ex : Nm → Prop} (w : Wk pl ts u fs st prev ex) (hh : h ∈ fs) (ha : Adj ts h y k) (hy : y ∉ fs) :
    dist ts u y = dist ts u h + k ∧ Wk pl ts u (fs ++ [y]) (st ++ [y]) (fun z => if z = y then h else prev z) ex := by
  have wh := tr.the_way (w.sub u w.hu) (w.sub h hh)
  have wy := Way.snoc wh ha fun z => hy (w.cl h hh y z)
  obtain ⟨e1, e2⟩ := tr.is_way wy
  have yp : y ∈ pl := by
    rcases ha with z | z
    · exact (tr.ties _ z).2.1
    · exact (tr.ties _ z).1
  refine ⟨e2, nd_snoc' w.nd hy, fun x hx => ?_, fun x hx => ?_, List.mem_append_left _ w.hu, fun x hx z hz => ?_, fun x hx n => ?_, fun x hx n ne z m hz => ?_⟩
  · rcases List.mem_append.mp hx with z | z
    · exact w.sub x z
    · rw [List.mem_singleton.mp z]
      exact yp
  · rcases List.mem_append.mp hx with z | z
    · exact List.mem_append_left _ (w.sti x z)
    · exact List.mem_append_right _ z
  · rcases List.mem_append.mp hx with q | q
    · exact List.mem_append_left _ (w.cl x q z hz)
    · rw [List.mem_singleton.mp q, e1] at hz
      rcases List.mem_append.mp hz with r | r
      · exact List.mem_append_left _ (w.cl h hh z r)
      · exact List.mem_append_right _ r
  · rcases List.mem_append.mp hx with q | q
    · have xy : x ≠ y := fun e => hy (e ▸ q)
      show (if x = y then h else prev x) ∈ fs ++ [y] ∧ path ts u x = path ts u (if x = y then h else prev x) ++ [x]
      rw [if_neg xy]
      exact ⟨List.mem_append_left _ (w.pr x q n).1, (w.pr x q n).2⟩
    · have xy := List.mem_singleton.mp q
      show (if x = y then h else prev x) ∈ fs ++ [y] ∧ path ts u x = path ts u (if x = y then h else prev x) ++ [x]
      rw [if_pos xy, xy]
      exact ⟨List.mem_append_left _ hh, e1⟩
  · rcases List.mem_append.mp hx with q | q
    · exact List.mem_append_left _ (w.done x q (fun r => n (List.mem_append_left _ r)) ne z m hz)
    · exact absurd (List.mem_append_right _ q) n
theorem Wk.shut {pl : List Nm} {ts : List Tie} {u h : Nm} {fs st : List Nm} {prev : Nm → Nm} (w : Wk pl ts u fs st prev (fun x => x = h)) (hd : ∀ y k, Adj ts h y k → y ∈ fs) : Wk pl ts u fs st prev (fun _ => False) :=
  ⟨w.nd, w.sub, w.sti, w.hu, w.cl, w.pr, fun x hx n _ y k ha => by
    by_cases e : x = h
    · rw [e] at ha
      exact hd y k ha
    · exact w.done x hx n e y k ha⟩
theorem Wk.all {pl : List Nm} {ts : List Tie} (tr : IsTree pl ts) {u : Nm} {fs : List Nm} {prev : Nm → Nm} (w : Wk pl ts u fs [] prev (fun _ => False)) : ∀ x, x ∈ fs ↔ x ∈ pl := fun x =>
  ⟨w.sub x, fun hx => tr.all_of (F := fun z => z ∈ fs) (w.sub u w.hu) w.hu (fun a b k ha hab => w.done a ha (by simp) (fun z => z) b k hab) x hx⟩
structure Fine (pl : List Nm) (ts : List Tie) : Prop where
  tree : IsTree pl ts
  ok : ∀ l ∈ pl, NameOk l
  len : pl.length ≤ 1000
theorem Fine.okT {pl : List Nm} {ts : List Tie} (F : Fine pl ts) {e : Tie} (he : e ∈ ts) : NameOk e.1 ∧ NameOk e.2.1 := by
  obtain ⟨i1, i2, _⟩ := F.tree.ties e he
  exact ⟨F.ok _ i1, F.ok _ i2⟩
theorem Fine.ne {pl : List Nm} {ts : List Tie} (F : Fine pl ts) : pl ≠ [] := fun z => by
  have := F.tree.len
  rw [z] at this
  simp at this
theorem dt_pair {H : Hp} {v : V} {d e : PyData} (h : Dt H v (.tuple [d, e])) (ne : ∀ l : Nm, e ≠ strD l) : ∃ (a : Addr) (x y : V), v = .ref a ∧ H a = some (.tup [x, y]) ∧ Dt H x d ∧ Dt H y e := by
  cases h with
  | tup ha hs =>
    cases hs with
    | cons h1 hr =>
      cases hr with
      | cons h2 hn =>
        cases hn
        exact ⟨_, _, _, rfl, ha, h1, h2⟩
  | @tupZ a pl _ o e _ _ _ =>
    exfalso
    cases pl with
    | nil => cases e
    | cons l r =>
      cases r with
      | nil => cases e
      | cons l2 r2 => exact ne l2 (List.cons.inj (List.cons.inj e).2).1
theorem dt_tup {H : Hp} {v : V} {ds : List PyData} (h : Dt H v (.tuple ds)) (ne : ds ≠ [] → ∃ d ∈ ds, ∀ l : Nm, d ≠ strD l) : ∃ (a : Addr) (xs : List V), v = .ref a ∧ H a = some (.tup xs) ∧ DtAll H xs ds := by
  cases h with
  | tup ha hs => exact ⟨_, _, rfl, ha, hs⟩
  | @tupZ a pl _ o e n _ _ =>
    exfalso
    obtain ⟨d, hd, no⟩ := ne (by rw [e]; simpa using n)
    rw [e] at hd
    obtain ⟨l, _, z⟩ := List.mem_map.mp hd
    exact no l z.symm
theorem dt_names {H : Hp} {v : V} {pl : List Nm} (h : Dt H v (.tuple (pl.map strD))) : ∃ a : Addr, v = .ref a ∧ TupAt H a ((pl.map S).map V.str) := by
  have inj : ∀ {p q : List Nm}, p.map strD = q.map strD → p = q := by
    intro p
    induction p with
    | nil =>
      intro q e
      cases q with
      | nil => rfl
      | cons _ _ => cases e
    | cons a r ih =>
      intro q e
      cases q with
      | nil => cases e
      | cons b t =>
        have e' := List.cons.inj e
        have h1 : S a = S b := PyData.str.inj e'.1
        rw [SX.S_inj h1, ih e'.2]
  generalize hd : pl.map strD = ds at h
  cases h with
  | tup ha hs =>
    subst hd
    rw [DtAll.strs hs] at ha
    exact ⟨_, rfl, .inl ha⟩
  | @tupZ a pl2 _ o e n d ha =>
    rw [← inj (hd.trans e)] at ha
    exact ⟨_, rfl, .inr ⟨o, d, ha⟩⟩
theorem tie_no (e : Tie) (l : Nm) : tieD e ≠ strD l := fun z => nomatch z
/-- a tree in the heap: its parts -/
theorem dt_tree {H : Hp} {v : V} {pl : List Nm} {ts : List Tie} (h : Dt H v (treeD pl ts)) : ∃ (t a b : Addr) (vs : List V), v = .ref t ∧ H t = some (.tup [.ref a, .ref b]) ∧ TupAt H a ((pl.map S).map V.str) ∧ H b = some (.tup vs) ∧ DtAll H vs (ts.map tieD) := by
  obtain ⟨t, x, y, rfl, ht, hx, hy⟩ := dt_pair h fun l z => nomatch z
  obtain ⟨a, rfl, ha⟩ := dt_names hx
  obtain ⟨b, vs, rfl, hb, hv⟩ := dt_tup hy fun n => by
    cases ts with
    | nil => exact absurd rfl n
    | cons e r => exact ⟨tieD e, List.mem_cons_self .., tie_no e⟩
  exact ⟨t, a, b, vs, rfl, ht, ha, hb, hv⟩
theorem dt_tie {H : Hp} {v : V} {e : Tie} (h : Dt H v (tieD e)) : ∃ t : Addr, v = .ref t ∧ H t = some (.tup [.str (S e.1), .str (S e.2.1), .int e.2.2]) := by
  obtain ⟨t, xs, rfl, ht, hs⟩ := dt_tup h fun _ => ⟨.int e.2.2, by simp [tieD], fun l z => nomatch z⟩
  cases hs with
  | cons h1 hr =>
    cases hr with
    | cons h2 hr =>
      cases hr with
      | cons h3 hr =>
        cases hr
        cases h1
        cases h2
        cases h3
        exact ⟨t, rfl, ht⟩
end
end Far

namespace Far
open PySem PySem.Spec PyProof.Rows L2
section
variable {X : Cx}
/-- name = {k: v for ..} on one line, the name a local one -/
theorem ps_setDc {i : Nat} {y : Str} {py spos pos : Pos} {kx vx tg iter : Expr} {ifs : List Expr} {scope : Scope} {own : List (Str × Nat)} {wi : TI} {g : TG} {tt : TT} {tk tv : TE}
    (hc : X.calm = true) (hN : X.N.Nodup) (hy : X.N[i]? = some y) (hyl : X.env.scope.names.lookup y = some .local) (hsw : swapsWith (.DictComp kx vx [⟨tg, iter, ifs, 0⟩] scope pos) (some (.Name y py)) spos.line X.env = pure true)
    (hi : PI X tg iter wi) (ok : BlkOk X.N X.env.scope scope own)
    (hg : ∀ (s : Shared) (H : Hp) (C : Addr) (l : List (Str × Addr)) (fp : List Addr), PG (X.blk s H scope (compEnvC scope l C X.env) fp) tg g)
    (ht : ∀ (s : Shared) (H : Hp) (C : Addr) (l : List (Str × Addr)) (fp : List Addr), PTs (X.blk s H scope (compEnvC scope l C X.env) fp) ifs tt)
    (hk : ∀ (s : Shared) (H : Hp) (C : Addr) (l : List (Str × Addr)) (fp : List Addr), PE (X.blk s H scope (compEnvC scope l C X.env) fp) kx tk)
    (hv : ∀ (s : Shared) (H : Hp) (C : Addr) (l : List (Str × Addr)) (fp : List Addr), PE (X.blk s H scope (compEnvC scope l C X.env) fp) vx tv)
    (hs : ∀ x, foldedSetIterable iter X.env x = pure x := by intro _; rfl) : PS X (.Assign [.Name y py] (.DictComp kx vx [⟨tg, iter, ifs, 0⟩] scope pos) spos) (tAsg (tDc wi g tt tk tv (own.map (·.2))) (gName i)) := by
  refine ⟨fun pins s σ H D I h => ?_⟩
  replace h : tDc wi g tt tk tv (own.map (·.2)) σ H (fun v H1 => gName i v σ H1 D.nx) := h
  rw [exec_Assign_Name_used _ _ _ _ hsw]
  refine wpAny_bind (wpAny_standAt (wpAny_bind ?_))
  show wpAny _ X.A (do let _ ← comprehension (.DictComp kx vx [⟨tg, iter, ifs, 0⟩] scope pos) scope X.env (firstIterPos [⟨tg, iter, ifs, 0⟩] pos) newDict false (eval iter X.env) (some (assign (.Name y py) X.env))) _ _ s
  refine wpAny_bind (thn (dc_core (Qf := fun _ s1 => SP X pins D .next s1) hc hN I hi ok hg ht hk hv hs h fun L C s1 m H1 I1 q hn f => ?_) fun _ s1 z => wpAny_pure (wpAny_pure z))
  show wpAny _ _ (assign (.Name y py) X.env (.ref L)) _ _ _
  obtain ⟨f0, f1, f2, f3, f4, f5⟩ := f
  refine wpAny_assign_Name (store_ok2 (v := V.ref L) I1 hN hy (.inl hyl) rfl (fun s2 I2 ⟨a, sb, ha⟩ => ⟨m, hn.sameBut sb ?_, fun h3 sb3 => ?_⟩) (.inr hyl))
  · rcases ha with z | z
    · exact z ▸ f1
    · exact fun e => f4 y a z e.symm
  · exact ⟨_, H1, I2.turned (t' := s2.toks) (fun b o hb e => (sb3.2 b hb).trans e) f0 f1 f3 f4 f5, q⟩
theorem swD_true {kx vx : Expr} {gs : List Comprehension} {scope : Scope} {pos py : Pos} {y : Str} {l : Nat} {env : Env} (hk : env.scope.kind = .function) (hy : env.scope.names.lookup y = some .local) (hl : (py.line == pos.line) = true)
    (ha : (scope.names.any fun (n, k) => n == y && (k == .local || k == .cell)) = false) : swapsWith (.DictComp kx vx gs scope pos) (some (.Name y py)) l env = pure true := by
  have e1 : env.kindOf y = some .local := hy
  have e2 : env.blockKind = .function := by unfold Env.blockKind; rw [hk]; rfl
  unfold swapsWith
  simp only [e2, e1, ha, Expr.pos, hl]
  rfl
end
end Far

namespace Far
open PySem PySem.Spec PyProof.Rows L2
open C8 (pss_cut tCut)
open SX (S)
structure TxtW (mg : Str → Option Value) : Prop where
  tuple : mg "tuple" = none
/-! ### the ties of each place -/
def pairD (x : Nm × Int) : PyData := .tuple [.str (S x.1), .int x.2]
theorem dt_pairD {H : Hp} {v : V} {x : Nm × Int} (h : Dt H v (pairD x)) : ∃ t : Addr, v = .ref t ∧ H t = some (.tup [.str (S x.1), .int x.2]) := by
  obtain ⟨t, a, b, rfl, ht, h1, h2⟩ := dt_pair h fun l z => nomatch z
  cases h1
  cases h2
  exact ⟨t, rfl, ht⟩
/-- at D: for each place a list of its own, of the places tied to it with the ties' lengths -/
structure BesideAt (H : Hp) (D : Addr) (pl : List Nm) (ad : Nm → Addr) (nb : Nm → List (Nm × Int)) : Prop where
  dict : H D = some (.dK (dkm pl fun l => .ref (ad l)))
  each : ∀ l ∈ pl, ∃ vs, H (ad l) = some (.lst vs) ∧ DtAll H vs ((nb l).map pairD)
  inj : ∀ l ∈ pl, ∀ m ∈ pl, ad l = ad m → l = m
def nbAdd (nb : Nm → List (Nm × Int)) (a : Nm) (x : Nm × Int) : Nm → List (Nm × Int) := fun l => if l = a then nb l ++ [x] else nb l
theorem BesideAt.keep {H H' : Hp} {D : Addr} {pl : List Nm} {ad : Nm → Addr} {nb : Nm → List (Nm × Int)} (b : BesideAt H D pl ad nb) (s : Same H H') : BesideAt H' D pl ad nb :=
  ⟨s _ _ b.dict, fun l hl => let ⟨vs, h1, h2⟩ := b.each l hl; ⟨vs, s _ _ h1, DtAll.keep (TK.of s) h2⟩, b.inj⟩
theorem BesideAt.ne {H : Hp} {D : Addr} {pl : List Nm} {ad : Nm → Addr} {nb : Nm → List (Nm × Int)} (b : BesideAt H D pl ad nb) {l : Nm} (hl : l ∈ pl) : ad l ≠ D := by
  obtain ⟨vs, h, _⟩ := b.each l hl
  exact ne_of h b.dict (by intro z; cases z)
theorem BesideAt.add {H : Hp} {D : Addr} {pl : List Nm} {ad : Nm → Addr} {nb : Nm → List (Nm × Int)} (b : BesideAt H D pl ad nb) {a : Nm} (ha : a ∈ pl) {x : Nm × Int} {v : V} {vs : List V} (hv : Dt H v (pairD x)) (hvs : H (ad a) = some (.lst vs)) :
    BesideAt (upd H (ad a) (.lst (vs ++ [v]))) D pl ad (nbAdd nb a x) := by
  have tk : TK H (upd H (ad a) (.lst (vs ++ [v]))) := TK.mut hvs
  refine ⟨by rw [upd_ne (b.ne ha).symm]; exact b.dict, fun l hl => ?_, b.inj⟩
  by_cases e : l = a
  · subst e
    obtain ⟨ws, h1, h2⟩ := b.each l hl
    rw [hvs] at h1
    cases h1
    refine ⟨_, upd_same, ?_⟩
    unfold nbAdd
    rw [if_pos rfl, List.map_append]
    exact DtAll.app (DtAll.keep tk h2) (.cons (Dt.keep tk hv) .nil)
  · obtain ⟨ws, h1, h2⟩ := b.each l hl
    refine ⟨ws, by rw [upd_ne (fun z => e (b.inj l hl a ha z))]; exact h1, ?_⟩
    unfold nbAdd
    rw [if_neg e]
    exact DtAll.keep tk h2
/-- the ties of a place, as the program takes them down -/
def nbOf : List Tie → Nm → List (Nm × Int) := List.foldl (fun nb e => nbAdd (nbAdd nb e.1 (e.2.1, e.2.2)) e.2.1 (e.1, e.2.2)) (fun _ => [])
theorem nbOf_snoc (ts : List Tie) (e : Tie) : nbOf (ts ++ [e]) = nbAdd (nbAdd (nbOf ts) e.1 (e.2.1, e.2.2)) e.2.1 (e.1, e.2.2) := by
  unfold nbOf
  rw [List.foldl_append]
  rfl
theorem list_rec_snoc {α : Type} {P : List α → Prop} (h0 : P []) (h1 : ∀ l x, P l → P (l ++ [x])) : ∀ l, P l := by
  intro l
  have : ∀ r : List α, P r.reverse := by
    intro r
    induction r with
    | nil => exact h0
    | cons x r ih =>
      rw [List.reverse_cons]
      exact h1 _ _ ih
  have q := this l.reverse
  rwa [List.reverse_reverse] at q
theorem nbAdd_mem {nb : Nm → List (Nm × Int)} {a l : Nm} {x y : Nm × Int} : y ∈ nbAdd nb a x l ↔ y ∈ nb l ∨ (l = a ∧ y = x) := by
  unfold nbAdd
  by_cases e : l = a
  · rw [if_pos e, List.mem_append, List.mem_singleton]
    simp [e]
  · rw [if_neg e]
    simp [e]
theorem nbOf_adj (ts : List Tie) : ∀ (l x : Nm) (k : Int), (x, k) ∈ nbOf ts l ↔ Adj ts l x k := by
  induction ts using list_rec_snoc with
  | h0 =>
    intro l x k
    constructor
    · intro h
      cases h
    · intro h
      rcases h with h | h <;> cases h
  | h1 ts e ih =>
    intro l x k
    rw [nbOf_snoc, nbAdd_mem, nbAdd_mem, ih]
    obtain ⟨a, b, m⟩ := e
    constructor
    · rintro ((h | ⟨h1, h2⟩) | ⟨h1, h2⟩)
      · exact h.elim (fun z => .inl (List.mem_append_left _ z)) fun z => .inr (List.mem_append_left _ z)
      · cases h2
        exact .inl (by rw [h1]; simp)
      · cases h2
        exact .inr (by rw [h1]; simp)
    · rintro (h | h) <;> rcases List.mem_append.mp h with z | z
      · exact .inl (.inl (.inl z))
      · have z := List.mem_singleton.mp z
        cases z
        exact .inl (.inr ⟨rfl, rfl⟩)
      · exact .inl (.inl (.inr z))
      · have z := List.mem_singleton.mp z
        cases z
        exact .inr ⟨rfl, rfl⟩
theorem nbAdd_len {nb : Nm → List (Nm × Int)} {a l : Nm} {x : Nm × Int} : (nbAdd nb a x l).length ≤ (nb l).length + 1 := by
  unfold nbAdd
  split
  · rw [List.length_append]
    exact Nat.le_refl _
  · omega
theorem nbOf_len (ts : List Tie) : ∀ l, (nbOf ts l).length ≤ 2 * ts.length := by
  induction ts using list_rec_snoc with
  | h0 => intro l; exact Nat.zero_le _
  | h1 ts e ih =>
    intro l
    rw [nbOf_snoc, List.length_append, List.length_singleton]
    have h1 := nbAdd_len (nb := nbAdd (nbOf ts) e.1 (e.2.1, e.2.2)) (a := e.2.1) (l := l) (x := (e.1, e.2.2))
    have h2 := nbAdd_len (nb := nbOf ts) (a := e.1) (l := l) (x := (e.2.1, e.2.2))
    have h3 := ih l
    omega
/-- another object changes -/
theorem BesideAt.off {H : Hp} {D g : Addr} {o : HO} {pl : List Nm} {ad : Nm → Addr} {nb : Nm → List (Nm × Int)} (b : BesideAt H D pl ad nb) (tk : TK H (upd H g o)) (n : D ≠ g) (na : ∀ l ∈ pl, ad l ≠ g) : BesideAt (upd H g o) D pl ad nb :=
  ⟨by rw [upd_ne n]; exact b.dict, fun l hl => let ⟨vs, h1, h2⟩ := b.each l hl; ⟨vs, by rw [upd_ne (na l hl)]; exact h1, DtAll.keep tk h2⟩, b.inj⟩
abbrev s_ties_of_each : Stmt := topS 8
abbrev N_ties_of_each : List Str := ["tree", "places", "ties", "beside", "one", "other", "length", "place"]
theorem sc_ties_of_each : FnScope N_ties_of_each ["tree"] (defScope s_ties_of_each) := ⟨rfl, rfl, rfl, by decide +kernel, rfl, by decide +kernel, by decide +kernel⟩
section
variable {P : Program} {w : World} {K : PySem.W.Frag} {mg : Str → Option Value} {base : Heap}
def spTies : Sp := fun vs H Q _ => ∃ (v : V) (pl : List Nm) (ts : List Tie), vs = [v] ∧ Dt H v (treeD pl ts) ∧ Fine pl ts ∧ ∀ (H' : Hp) (D : Addr) (ad : Nm → Addr), Same H H' → H D = none → BesideAt H' D pl ad (nbOf ts) → (∀ l ∈ pl, H (ad l) = none) → Q (.ref D) H'
theorem ok_ties_of_each {f : Addr} {fd : FuncData} (F : Fun K "_ties_of_each" "_ties_of_each" s_ties_of_each f fd) : FnOk P w K mg base CX0 1 f fd ["tree"] spTies := by
  refine F.ok sc_ties_of_each (fun vs H Q E h => ?_) (fun cdv A outer s H vs Q E hr h => ?_)
  · obtain ⟨v, pl, ts, rfl, _⟩ := h
    rfl
  · obtain ⟨v, pl, ts, rfl, hd, fine, q⟩ := h
    obtain ⟨t, a, b, vs, rfl, ht, ha, hb, hA⟩ := dt_tree hd
    refine ⟨_, (pss_cons (ps_asg (pv 0) (pg_tup rfl (pgs_cons (pg_name (i := 1) sc_ties_of_each.nd rfl (.inl rfl)) (pgs_cons (pg_name (i := 2) sc_ties_of_each.nd rfl (.inl rfl)) pgs_nil))))
      (pss_cons (ps_setDc (i := 3) (own := [("place", 7)]) (g := gName 7) (tt := tYes) rfl sc_ties_of_each.nd rfl rfl (swD_true rfl rfl rfl (by decide +kernel)) (pi_tup (pv 1)) (blkOk_by (N := N_ties_of_each) (sc := defScope s_ties_of_each) (by decide +kernel)) (fun _ _ _ _ _ => pg_name (i := 7) sc_ties_of_each.nd rfl (Or.inl rfl)) (fun _ _ _ _ _ => pts_nil) (fun _ _ _ _ _ => (pv 7)) (fun _ _ _ _ _ => (pe_lst pa_nil)))
      (pss_cut (ps_for PassesOwn.never rfl (pi_tup (pv 2)) (pg_tup rfl (pgs_cons (pg_name (i := 4) sc_ties_of_each.nd rfl (.inl rfl)) (pgs_cons (pg_name (i := 5) sc_ties_of_each.nd rfl (.inl rfl)) (pgs_cons (pg_name (i := 6) sc_ties_of_each.nd rfl (.inl rfl)) pgs_nil))))
        (pss_cons (ps_expr (pe_bm PySem.F.plainAttrs_list PySem.F.slot_list_append PySem.F.type_list_append mt_append (pe_dget (hu_of hr) (pv 3) (pv 4) (fun _ _ => rfl)) (pa_cons (pe_tup (pa_cons (pv 5) (pa_cons (pv 6) pa_nil))) pa_nil)))
        (pss_one (ps_expr (pe_bm PySem.F.plainAttrs_list PySem.F.slot_list_append PySem.F.type_list_append mt_append (pe_dget (hu_of hr) (pv 3) (pv 5) (fun _ _ => rfl)) (pa_cons (pe_tup (pa_cons (pv 4) (pa_cons (pv 6) pa_nil))) pa_nil))))))
      (pss_one (ps_ret (pv 3)))))), ?_⟩
    have nd := fine.tree.nodup
    have pl1 := fine.len
    have len := fine.tree.len
    have vl : vs.length = ts.length := by
      have := DtAll.len hA
      rwa [List.length_map] at this
    refine ⟨_, rfl, t, _, rfl, SqT.of ht, rfl, _, _, rfl, _, _, rfl, rfl, ?_⟩
    refine ⟨_, rfl, a, rfl, ⟨_, ha.sq⟩, fun D nD => ?_⟩
    have Da : D ≠ a := (ha.ne nD).symm
    refine dc_tup (K := K) (a := a) (xs := (pl.map S).map V.str) (fun i H' => ∃ ad : Nm → Addr, Same H H' ∧ BesideAt H' D (pl.take i) ad (fun _ => []) ∧ ∀ l ∈ pl.take i, H (ad l) = none) ⟨fun _ => 0, same_new (Same.refl H) nD, ⟨upd_same, fun l hl => (by cases hl), fun l hl => (by cases hl)⟩, fun l hl => (by cases hl)⟩ (fun i H' _ hP => ?_) (fun i x H' hi hP => ?_) (fun H' hP => ?_)
    · obtain ⟨_, sm, _⟩ := hP
      exact (ha.same sm).sq
    · obtain ⟨ad, sm, bs, fr⟩ := hP
      rw [List.getElem?_map, List.getElem?_map] at hi
      cases el : pl[i]? with
      | none =>
        rw [el] at hi
        cases hi
      | some l =>
        rw [el] at hi
        have ex : x = .str (S l) := (Option.some.inj hi).symm
        subst ex
        have ln : l ∉ pl.take i := fun hm => by
          obtain ⟨j, hj, ej⟩ := List.mem_take_iff_getElem.mp hm
          obtain ⟨hi', ei⟩ := List.getElem?_eq_some_iff.mp el
          have := (List.getElem_inj nd).mp (ej.trans ei.symm)
          omega
        have et : pl.take (i + 1) = pl.take i ++ [l] := by
          rw [List.take_add_one, el]
          rfl
        refine ⟨rfl, _, rfl, Nat.zero_le _, fun g ng => ?_⟩
        have gD : g ≠ D := (ne_of_none bs.dict ng).symm
        have hD : (upd H' g (.lst [])) D = some (.dK (dkm (pl.take i) fun l => .ref (ad l))) := by
          rw [upd_ne gD.symm]
          exact bs.dict
        refine ⟨_, Sum.inr (S l), rfl, hD, by unfold dkm; rw [List.length_map, List.length_take]; exact sz_lt (by omega), ?_⟩
        rw [dkm_new ln, et]
        have adg : ∀ m ∈ pl.take i, ad m ≠ g := fun m hm => by
          obtain ⟨ws, h1, _⟩ := bs.each m hm
          exact ne_of_none h1 ng
        refine ⟨fun z => if z = l then g else ad z, same_put (same_new sm ng) nD, ⟨?_, fun m hm => ?_, fun m hm m' hm' => ?_⟩, fun m hm => ?_⟩
        · rw [upd_same]
          refine congrArg (fun z => some (HO.dK z)) (dkm_cong fun z _ => ?_)
          by_cases e : z = l <;> simp [e]
        · rcases List.mem_append.mp hm with z | z
          · have ml : m ≠ l := fun e => ln (e ▸ z)
            obtain ⟨ws, h1, h2⟩ := bs.each m z
            refine ⟨ws, ?_, DtAll.keep ((TK.new ng).trans (tkD hD)) h2⟩
            rw [if_neg ml, upd_ne (bs.ne z), upd_ne (adg m z)]
            exact h1
          · rw [List.mem_singleton.mp z, if_pos rfl]
            exact ⟨[], by rw [upd_ne gD]; exact upd_same, .nil⟩
        · rcases List.mem_append.mp hm with z | z <;> rcases List.mem_append.mp hm' with y | y
          · have ml : m ≠ l := fun e => ln (e ▸ z)
            have ml' : m' ≠ l := fun e => ln (e ▸ y)
            rw [if_neg ml, if_neg ml']
            exact bs.inj m z m' y
          · have ml : m ≠ l := fun e => ln (e ▸ z)
            rw [if_neg ml, List.mem_singleton.mp y, if_pos rfl]
            exact fun e => absurd e (adg m z)
          · have ml' : m' ≠ l := fun e => ln (e ▸ y)
            rw [if_neg ml', List.mem_singleton.mp z, if_pos rfl]
            exact fun e => absurd e.symm (adg m' y)
          · rw [List.mem_singleton.mp z, List.mem_singleton.mp y]
            exact fun _ => rfl
        · rcases List.mem_append.mp hm with z | z
          · have ml : m ≠ l := fun e => ln (e ▸ z)
            show H (if m = l then g else ad m) = none
            rw [if_neg ml]
            exact fr m z
          · rw [List.mem_singleton.mp z]
            show H (if l = l then g else ad l) = none
            rw [if_pos rfl]
            exact sm.free ng
    · obtain ⟨ad, sm, bs, fr⟩ := hP
      rw [List.length_map, List.length_map, List.take_length] at bs fr
      refine ⟨fun σ2 H2 => ∃ x4 x5 x6, σ2 = [some (.ref t), some (.ref a), some (.ref b), some (.ref D), x4, x5, x6, none] ∧ Same H H2 ∧ BesideAt H2 D pl ad (nbOf ts), ?_, fun σ2 H2 hM => ?_⟩
      · refine ⟨_, rfl, b, rfl, ⟨_, SqT.of (sm _ _ hb)⟩, for_tup (K := K) (a := b) (xs := vs) (fun i σ2 H2 => ∃ x4 x5 x6, σ2 = [some (.ref t), some (.ref a), some (.ref b), some (.ref D), x4, x5, x6, none] ∧ Same H H2 ∧ BesideAt H2 D pl ad (nbOf (ts.take i)))
          ⟨none, none, none, rfl, sm, bs⟩ (fun i σ2 H2 _ hP => ?_) (fun i x σ2 H2 hi hP => ?_) (fun σ2 H2 hP => ?_)⟩
        · obtain ⟨_, _, _, _, sm, _⟩ := hP
          exact SqT.of (sm _ _ hb)
        · obtain ⟨x4, x5, x6, rfl, sm2, bs2⟩ := hP
          obtain ⟨d, hd, hx⟩ := DtAll.get hA hi
          rw [List.getElem?_map] at hd
          cases ee : ts[i]? with
          | none =>
            rw [ee] at hd
            cases hd
          | some e =>
            rw [ee] at hd
            have ed : d = tieD e := (Option.some.inj hd).symm
            subst ed
            obtain ⟨u, rfl, hu⟩ := dt_tie hx
            have em : e ∈ ts := List.mem_of_getElem? ee
            obtain ⟨i1, i2, k1, k2⟩ := fine.tree.ties e em
            have et : ts.take (i + 1) = ts.take i ++ [e] := by
              rw [List.take_add_one, ee]
              rfl
            have tl : (ts.take i).length ≤ 1000 := by
              rw [List.length_take]
              omega
            refine ⟨u, _, rfl, SqT.of (sm2 _ _ hu), rfl, _, _, rfl, _, _, rfl, _, _, rfl, rfl, ?_⟩
            -- beside[one].append
            obtain ⟨w1, g1, g2⟩ := bs2.each e.1 i1
            have l1 : w1.length = (nbOf (ts.take i) e.1).length := by
              have := DtAll.len g2
              rwa [List.length_map] at this
            have l1' := nbOf_len (ts.take i) e.1
            refine ⟨_, rfl, _, rfl, D, .ref (ad e.1), rfl, by rw [← dkm_get (f := fun l => V.ref (ad l)) i1]; exact DGet.k (k := Sum.inr (S e.1)) bs2.dict, .inl ⟨rfl, _, SqL.of g1⟩, _, rfl, _, rfl, (by show 2 ≤ sizeLine; decide), fun p np => ?_⟩
            have bs3 := bs2.keep (same_new (o := .tup [.str (S e.2.1), .int e.2.2]) (Same.refl H2) np)
            have g1' : (upd H2 p (.tup [.str (S e.2.1), .int e.2.2])) (ad e.1) = some (.lst w1) := by
              rw [upd_ne (ne_of_none g1 np)]
              exact g1
            refine ⟨_, _, _, rfl, rfl, g1', sz_lt (by omega), ?_⟩
            have bs4 := bs3.add i1 (x := (e.2.1, e.2.2)) (v := .ref p) (.tup upd_same (.cons (.str _) (.cons (.int _) .nil))) g1'
            have sm4 : Same H (upd (upd H2 p (.tup [.str (S e.2.1), .int e.2.2])) (ad e.1) (.lst (w1 ++ [.ref p]))) := same_put (same_new sm2 np) (fr _ i1)
            generalize upd (upd H2 p (.tup [.str (S e.2.1), .int e.2.2])) (ad e.1) (.lst (w1 ++ [.ref p])) = H4 at bs4 sm4
            -- beside[other].append
            obtain ⟨w2, g3, g4⟩ := bs4.each e.2.1 i2
            have l2 : w2.length = (nbAdd (nbOf (ts.take i)) e.1 (e.2.1, e.2.2) e.2.1).length := by
              have := DtAll.len g4
              rwa [List.length_map] at this
            have l2' := nbOf_len (ts.take i) e.2.1
            have l2'' := nbAdd_len (nb := nbOf (ts.take i)) (a := e.1) (l := e.2.1) (x := (e.2.1, e.2.2))
            refine ⟨_, rfl, _, rfl, D, .ref (ad e.2.1), rfl, by rw [← dkm_get (f := fun l => V.ref (ad l)) i2]; exact DGet.k (k := Sum.inr (S e.2.1)) bs4.dict, .inl ⟨rfl, _, SqL.of g3⟩, _, rfl, _, rfl, (by show 2 ≤ sizeLine; decide), fun p' np' => ?_⟩
            have bs5 := bs4.keep (same_new (o := .tup [.str (S e.1), .int e.2.2]) (Same.refl H4) np')
            have g3' : (upd H4 p' (.tup [.str (S e.1), .int e.2.2])) (ad e.2.1) = some (.lst w2) := by
              rw [upd_ne (ne_of_none g3 np')]
              exact g3
            refine ⟨_, _, _, rfl, rfl, g3', sz_lt (by omega), ?_⟩
            have bs6 := bs5.add i2 (x := (e.1, e.2.2)) (v := .ref p') (.tup upd_same (.cons (.str _) (.cons (.int _) .nil))) g3'
            refine ⟨_, _, _, rfl, same_put (same_new sm4 np') (fr _ i2), ?_⟩
            rw [et, nbOf_snoc]
            exact bs6
        · obtain ⟨x4, x5, x6, rfl, sm2, bs2⟩ := hP
          rw [vl, List.take_length] at bs2
          exact ⟨_, _, _, rfl, sm2, bs2⟩
      · obtain ⟨x4, x5, x6, rfl, sm2, bs2⟩ := hM
        exact ⟨_, rfl, q H2 D ad sm2 nD bs2 fr⟩
end
end Far

namespace Far
open PySem PySem.Spec PyProof.Rows L2
open C8 (pss_cut tCut)
open SX (S)
/-! ### a walk through a tree: fs come to, st to be gone on from, ex being gone on from -/
abbrev s_walk_from : Stmt := topS 7
abbrev N_walk_from : List Str := ["tree", "start", "beside", "back", "lengths", "ahead", "here", "place", "length"]
theorem sc_walk_from : FnScope N_walk_from ["tree", "start"] (defScope s_walk_from) := ⟨rfl, rfl, rfl, by decide +kernel, rfl, by decide +kernel, by decide +kernel⟩
section
variable {P : Program} {w : World} {K : PySem.W.Frag} {mg : Str → Option Value} {base : Heap}
/-- what a walk from u tells, at q -/
structure Walked (H : Hp) (q bk ln : Addr) (pl : List Nm) (ts : List Tie) (u : Nm) (fs : List Nm) (prev : Nm → Nm) : Prop where
  pair : H q = some (.tup [.ref bk, .ref ln])
  back : H bk = some (.dK (dkm fs fun x => .str (S (prev x))))
  lens : H ln = some (.dK (dkm fs fun x => .int (dist ts u x)))
  all : ∀ x, x ∈ fs ↔ x ∈ pl
  pr : ∀ x ∈ fs, x ≠ u → prev x ∈ fs ∧ path ts u x = path ts u (prev x) ++ [x]
def spWalk : Sp := fun vs H Q _ => ∃ (v : V) (pl : List Nm) (ts : List Tie) (u : Nm), vs = [v, .str (S u)] ∧ Dt H v (treeD pl ts) ∧ Fine pl ts ∧ u ∈ pl ∧ ∀ (H' : Hp) (q bk ln : Addr) (fs : List Nm) (prev : Nm → Nm), Same H H' → Walked H' q bk ln pl ts u fs prev → Q (.ref q) H'
theorem ok_walk_from {f : Addr} {fd : FuncData} (F : Fun K "walk_from" "walk_from" s_walk_from f fd) (C_ties_of_each : Cal P w K mg base 1 "_ties_of_each" spTies) : FnOk P w K mg base CX0 2 f fd ["tree", "start"] spWalk := by
  refine F.ok sc_walk_from (fun vs H Q E h => ?_) (fun cdv A outer s H vs Q E hr h => ?_)
  · obtain ⟨v, pl, ts, u, rfl, _⟩ := h
    rfl
  · obtain ⟨v, pl, ts, u, rfl, hd, fine, hu, q⟩ := h
    refine ⟨_, (pss_cons (ps_set (i := 2) sc_walk_from.nd rfl (.inl rfl) (pe_c C_ties_of_each hr (by decide) rfl (pa_cons (pv 0) pa_nil)))
      (pss_cons (ps_set (i := 3) sc_walk_from.nd rfl (.inl rfl) (pe_disp (pps_cons (pv 1) (pv 1) pps_nil) (by rfl) (by rfl) (fun z => by cases z) (by decide)))
      (pss_cons (ps_set (i := 4) sc_walk_from.nd rfl (.inl rfl) (pe_disp (pps_cons (pv 1) pe_int pps_nil) (by rfl) (by rfl) (fun z => by cases z) (by decide)))
      (pss_cons (ps_set (i := 5) sc_walk_from.nd rfl (.inl rfl) (pe_lst (pa_cons (pv 1) pa_nil)))
      (pss_cut (ps_while PassesOwn.never (pt_truth (pv 5) (by intro _; rfl))
        (pss_cons (ps_set (i := 6) sc_walk_from.nd rfl (.inl rfl) (pe_bm0 PySem.F.plainAttrs_list PySem.F.slot_list_pop PySem.F.type_list_pop mt_pop (pv 5)))
        (pss_one (ps_for PassesOwn.never rfl (pi_list (pe_dget (hu_of hr) (pv 2) (pv 6) (fun _ _ => rfl))) (pg_tup rfl (pgs_cons (pg_name (i := 7) sc_walk_from.nd rfl (.inl rfl)) (pgs_cons (pg_name (i := 8) sc_walk_from.nd rfl (.inl rfl)) pgs_nil)))
          (pss_one (ps_if (pt_cmp (pc_dnotin (hu_of hr) (pv 7) (pv 3)))
            (pss_cons (ps_dput (hu_of hr) (pv 3) (pv 7) (pv 6) rfl)
            (pss_cons (ps_dput (hu_of hr) (pv 4) (pv 7) (pe_op op_add (pe_dget (hu_of hr) (pv 4) (pv 6) (fun _ _ => rfl)) (pv 8)) rfl)
            (pss_one (ps_expr (pe_bm PySem.F.plainAttrs_list PySem.F.slot_list_append PySem.F.type_list_append mt_append (pv 5) (pa_cons (pv 7) pa_nil))))))
            pss_nil))))))
      (pss_one (ps_ret (pe_tup (pa_cons (pv 3) (pa_cons (pv 4) pa_nil)))))))))), ?_⟩
    have tr := fine.tree
    have pl1 := fine.len
    have tl1 := tr.len
    refine ⟨_, rfl, v, pl, ts, rfl, hd, fine, fun H1 D ad S1 nD bs fr => ?_⟩
    -- back, lengths, ahead
    refine fun bk nbk => ⟨_, rfl, _, rfl, upd_same, [(Sum.inr (S u), .str (S u))], rfl, (by decide : 1 ≤ 15), ?_⟩
    rw [upd_upd]
    have S2 := same_new (o := .dK (mergeK [] [((Sum.inr (S u) : Key), V.str (S u))])) S1 nbk
    have bs2 := bs.keep (same_new (o := .dK (mergeK [] [((Sum.inr (S u) : Key), V.str (S u))])) (Same.refl H1) nbk)
    refine fun ln nln => ⟨_, rfl, upd_same, [(Sum.inr (S u), .int 0)], rfl, (by decide : 1 ≤ 15), ?_⟩
    rw [upd_upd]
    have S3 := same_new (o := .dK (mergeK [] [((Sum.inr (S u) : Key), V.int 0)])) S2 nln
    have bs3 := bs2.keep (same_new (o := .dK (mergeK [] [((Sum.inr (S u) : Key), V.int 0)])) (Same.refl _) nln)
    refine ⟨_, rfl, (by show 1 ≤ sizeLine; decide), fun ah nah => ?_⟩
    have S4 := same_new (o := .lst [.str (S u)]) S3 nah
    have bs4 := bs3.keep (same_new (o := .lst [.str (S u)]) (Same.refl _) nah)
    have bkln : bk ≠ ln := ne_of_none upd_same nln
    have bkah : bk ≠ ah := ne_of_none (by rw [upd_ne bkln]; exact upd_same) nah
    have lnah : ln ≠ ah := ne_of_none upd_same nah
    have Dbk : D ≠ bk := ne_of_none bs.dict nbk
    have Dln : D ≠ ln := ne_of_none bs2.dict nln
    have Dah : D ≠ ah := ne_of_none bs3.dict nah
    have bk0 : H bk = none := S1.free nbk
    have ln0 : H ln = none := S2.free nln
    have ah0 : H ah = none := S3.free nah
    have adbk : ∀ l ∈ pl, ad l ≠ bk := fun l hl => let ⟨_, h1, _⟩ := bs.each l hl; ne_of_none h1 nbk
    have adln : ∀ l ∈ pl, ad l ≠ ln := fun l hl => let ⟨_, h1, _⟩ := bs2.each l hl; ne_of_none h1 nln
    have adah : ∀ l ∈ pl, ad l ≠ ah := fun l hl => let ⟨_, h1, _⟩ := bs3.each l hl; ne_of_none h1 nah
    have hbk : (upd (upd (upd H1 bk (.dK (mergeK [] [((Sum.inr (S u) : Key), V.str (S u))]))) ln (.dK (mergeK [] [((Sum.inr (S u) : Key), V.int 0)]))) ah (.lst [.str (S u)])) bk = some (.dK (dkm [u] fun x => .str (S u))) := by
      rw [upd_ne bkah, upd_ne bkln]
      exact upd_same
    have hln : (upd (upd (upd H1 bk (.dK (mergeK [] [((Sum.inr (S u) : Key), V.str (S u))]))) ln (.dK (mergeK [] [((Sum.inr (S u) : Key), V.int 0)]))) ah (.lst [.str (S u)])) ln = some (.dK (dkm [u] fun x => .int (dist ts u x))) := by
      rw [upd_ne lnah]
      refine upd_same.trans ?_
      unfold dkm
      rw [List.map_singleton]
      show some (HO.dK [((Sum.inr (S u) : Key), V.int 0)]) = some (HO.dK [((Sum.inr (S u) : Key), V.int (dist ts u u))])
      rw [(tr.dist_self u).1]
    have hah : (upd (upd (upd H1 bk (.dK (mergeK [] [((Sum.inr (S u) : Key), V.str (S u))]))) ln (.dK (mergeK [] [((Sum.inr (S u) : Key), V.int 0)]))) ah (.lst [.str (S u)])) ah = some (.lst (([u].map S).map V.str)) := upd_same
    generalize upd (upd (upd H1 bk (.dK (mergeK [] [((Sum.inr (S u) : Key), V.str (S u))]))) ln (.dK (mergeK [] [((Sum.inr (S u) : Key), V.int 0)]))) ah (.lst [.str (S u)]) = H4 at S4 bs4 hbk hln hah
    refine ⟨fun σ' H' => ∃ (fs : List Nm) (prev : Nm → Nm) (x6 x7 x8 : Option V), σ' = [some v, some (.str (S u)), some (.ref D), some (.ref bk), some (.ref ln), some (.ref ah), x6, x7, x8] ∧ Same H H' ∧ H' bk = some (.dK (dkm fs fun x => .str (S (prev x)))) ∧ H' ln = some (.dK (dkm fs fun x => .int (dist ts u x))) ∧ Wk pl ts u fs [] prev (fun _ => False), ?_, fun σ' H' hM => ?_⟩
    · refine ⟨fun m σ' H' => ∃ (fs st : List Nm) (prev : Nm → Nm) (x6 x7 x8 : Option V), σ' = [some v, some (.str (S u)), some (.ref D), some (.ref bk), some (.ref ln), some (.ref ah), x6, x7, x8] ∧ Same H H' ∧ BesideAt H' D pl ad (nbOf ts) ∧ H' bk = some (.dK (dkm fs fun x => .str (S (prev x)))) ∧ H' ln = some (.dK (dkm fs fun x => .int (dist ts u x))) ∧ H' ah = some (.lst ((st.map S).map V.str)) ∧ Wk pl ts u fs st prev (fun _ => False) ∧ st.length ≤ fs.length ∧ 2 * fs.length + m = 2 * pl.length + st.length,
        ⟨2 * pl.length - 1, [u], [u], fun _ => u, none, none, none, rfl, S4, bs4, hbk, hln, hah, Wk.start tr hu, Nat.le_refl _, by have := List.length_pos_of_mem hu; simp; omega⟩, ?_⟩
      rintro m σ2 H2 ⟨fs, st, prev, x6, x7, x8, rfl, SM, bs5, hbk5, hln5, hah5, wk, sl, em⟩
      refine ⟨_, rfl, _, .inl ⟨_, SqL.of hah5, rfl⟩, ?_⟩
      rcases List.eq_nil_or_concat st with rfl | ⟨st', h, e⟩
      · exact ⟨fs, prev, x6, x7, x8, rfl, SM, hbk5, hln5, wk⟩
      · rw [List.concat_eq_append] at e
        subst e
        have ne : ((st' ++ [h]).map S).map V.str = (st'.map S).map V.str ++ [.str (S h)] := by
          rw [List.map_append, List.map_append]
          rfl
        rw [ne] at hah5 ⊢
        have nb : (!((st'.map S).map V.str ++ [V.str (S h)]).isEmpty) = true := by simp
        rw [nb]
        refine iteT ?_
        obtain ⟨hh, wk1⟩ := wk.pop
        have hpl := wk1.sub h hh
        have fl := nodup_sub_len fs pl wk.nd wk.sub
        rw [List.length_append, List.length_singleton] at em sl
        obtain ⟨ws, hw1, hw2⟩ := bs5.each h hpl
        have wl : ws.length = (nbOf ts h).length := by
          have := DtAll.len hw2
          rwa [List.length_map] at this
        refine ⟨fun σ' H' => ∃ (fs' st'' : List Nm) (prev' : Nm → Nm) (x6 x7 x8 : Option V), σ' = [some v, some (.str (S u)), some (.ref D), some (.ref bk), some (.ref ln), some (.ref ah), x6, x7, x8] ∧ Same H H' ∧ BesideAt H' D pl ad (nbOf ts) ∧ H' bk = some (.dK (dkm fs' fun x => .str (S (prev' x)))) ∧ H' ln = some (.dK (dkm fs' fun x => .int (dist ts u x))) ∧ H' ah = some (.lst ((st''.map S).map V.str)) ∧ Wk pl ts u fs' st'' prev' (fun _ => False) ∧ fs.length ≤ fs'.length ∧ fs'.length + st'.length = fs.length + st''.length, ?_, ?_⟩
        · rintro σ' H' ⟨fs', st'', prev', y6, y7, y8, e1, e2, e3, e4, e5, e6, e7, e8, e9⟩
          have fl' := nodup_sub_len fs' pl e7.nd e7.sub
          exact ⟨2 * pl.length + st''.length - 2 * fs'.length, by omega, fs', st'', prev', y6, y7, y8, e1, e2, e3, e4, e5, e6, e7, by omega, by omega⟩
        · refine ⟨_, rfl, .inl ⟨rfl, _, SqL.of hah5⟩, ah, _, .str (S h), rfl, rfl, hah5, by simp, ?_⟩
          rw [List.dropLast_concat]
          have hbk6 : (upd H2 ah (.lst ((st'.map S).map V.str))) bk = some (.dK (dkm fs fun x => .str (S (prev x)))) := by rw [upd_ne bkah]; exact hbk5
          have hln6 : (upd H2 ah (.lst ((st'.map S).map V.str))) ln = some (.dK (dkm fs fun x => .int (dist ts u x))) := by rw [upd_ne lnah]; exact hln5
          have hw6 : (upd H2 ah (.lst ((st'.map S).map V.str))) (ad h) = some (.lst ws) := by rw [upd_ne (adah h hpl)]; exact hw1
          have SM6 : Same H (upd H2 ah (.lst ((st'.map S).map V.str))) := same_put SM ah0
          have bs6 : BesideAt (upd H2 ah (.lst ((st'.map S).map V.str))) D pl ad (nbOf ts) := bs5.off (TK.mut hah5) Dah adah
          have hah6 : (upd H2 ah (.lst ((st'.map S).map V.str))) ah = some (.lst ((st'.map S).map V.str)) := upd_same
          generalize upd H2 ah (.lst ((st'.map S).map V.str)) = H6 at hbk6 hln6 hw6 SM6 bs6 hah6
          refine ⟨_, rfl, _, rfl, D, .ref (ad h), rfl, by rw [← dkm_get (f := fun l => V.ref (ad l)) hpl]; exact DGet.k (k := Sum.inr (S h)) bs6.dict, ad h, rfl, ⟨_, SqL.of hw6⟩, for_list (K := K) (a := ad h) (xs := ws) (fun i σ' H' => ∃ (fs' st'' : List Nm) (prev' : Nm → Nm) (x7 x8 : Option V), σ' = [some v, some (.str (S u)), some (.ref D), some (.ref bk), some (.ref ln), some (.ref ah), some (.str (S h)), x7, x8] ∧ Same H H' ∧ BesideAt H' D pl ad (nbOf ts) ∧ H' (ad h) = some (.lst ws) ∧ H' bk = some (.dK (dkm fs' fun x => .str (S (prev' x)))) ∧ H' ln = some (.dK (dkm fs' fun x => .int (dist ts u x))) ∧ H' ah = some (.lst ((st''.map S).map V.str)) ∧ Wk pl ts u fs' st'' prev' (fun x => x = h) ∧ fs.length ≤ fs'.length ∧ fs'.length + st'.length = fs.length + st''.length ∧ h ∈ fs' ∧ ∀ p ∈ (nbOf ts h).take i, p.1 ∈ fs')
            ⟨fs, st', prev, x7, x8, rfl, SM6, bs6, hw6, hbk6, hln6, hah6, wk1, Nat.le_refl _, rfl, hh, fun p hp => (by cases hp)⟩ (fun i σ' H' _ hP => ?_) (fun i x σ' H' hi hP => ?_) (fun σ' H' hP => ?_)⟩
          · obtain ⟨_, _, _, _, _, _, _, _, hw, _⟩ := hP
            exact SqL.of hw
          · obtain ⟨fs', st'', prev', y7, y8, rfl, SM7, bs7, hw7, hbk7, hln7, hah7, wk7, le7, em7, hh7, nb7⟩ := hP
            obtain ⟨ws', hw', hA7⟩ := bs7.each h hpl
            rw [hw7] at hw'
            cases hw'
            obtain ⟨d, hd', hx⟩ := DtAll.get hA7 hi
            rw [List.getElem?_map] at hd'
            cases ee : (nbOf ts h)[i]? with
            | none =>
              rw [ee] at hd'
              cases hd'
            | some yk =>
              obtain ⟨y, k⟩ := yk
              rw [ee] at hd'
              have ed : d = pairD (y, k) := (Option.some.inj hd').symm
              subst ed
              obtain ⟨g, rfl, hg⟩ := dt_pairD hx
              have adj : Adj ts h y k := (nbOf_adj ts h y k).mp (List.mem_of_getElem? ee)
              have et : (nbOf ts h).take (i + 1) = (nbOf ts h).take i ++ [(y, k)] := by
                rw [List.take_add_one, ee]
                rfl
              have fl' := nodup_sub_len fs' pl wk7.nd wk7.sub
              have szf : ∀ f : Nm → V, (dkm fs' f).length < sizeLine := fun f => by
                unfold dkm
                rw [List.length_map]
                exact sz_lt (by omega)
              refine ⟨g, _, rfl, SqT.of hg, rfl, _, _, rfl, _, _, rfl, rfl, ?_⟩
              refine ⟨_, rfl, _, rfl, bk, _, rfl, DGet.k (k := Sum.inr (S y)) hbk7, _, rfl, ?_⟩
              rw [dkm_some]
              by_cases hy : y ∈ fs'
              · rw [decide_eq_true hy]
                refine iteF ⟨fs', st'', prev', _, _, rfl, SM7, bs7, hw7, hbk7, hln7, hah7, wk7, le7, em7, hh7, fun p hp => ?_⟩
                rw [et] at hp
                rcases List.mem_append.mp hp with z | z
                · exact nb7 p z
                · rw [List.mem_singleton.mp z]
                  exact hy
              · rw [decide_eq_false hy]
                refine iteT ?_
                obtain ⟨e1, wk8⟩ := wk7.push tr hh7 adj hy
                -- back[place] = here
                refine ⟨_, rfl, _, rfl, _, rfl, bk, _, rfl, DPut.k (k := Sum.inr (S y)) hbk7 (szf _), ?_⟩
                rw [dkm_new hy]
                have SM8 := same_put (o := .dK (dkm (fs' ++ [y]) fun z => if z = y then V.str (S h) else .str (S (prev' z)))) SM7 bk0
                have bs8 := bs7.off (o := .dK (dkm (fs' ++ [y]) fun z => if z = y then V.str (S h) else .str (S (prev' z)))) (tkD hbk7) Dbk adbk
                have hln8 : (upd H' bk (.dK (dkm (fs' ++ [y]) fun z => if z = y then V.str (S h) else .str (S (prev' z))))) ln = some (.dK (dkm fs' fun x => .int (dist ts u x))) := by rw [upd_ne bkln.symm]; exact hln7
                have hah8 : (upd H' bk (.dK (dkm (fs' ++ [y]) fun z => if z = y then V.str (S h) else .str (S (prev' z))))) ah = some (.lst ((st''.map S).map V.str)) := by rw [upd_ne bkah.symm]; exact hah7
                have hw8 : (upd H' bk (.dK (dkm (fs' ++ [y]) fun z => if z = y then V.str (S h) else .str (S (prev' z))))) (ad h) = some (.lst ws) := by rw [upd_ne (adbk h hpl)]; exact hw7
                have hbk8 : (upd H' bk (.dK (dkm (fs' ++ [y]) fun z => if z = y then V.str (S h) else .str (S (prev' z))))) bk = some (.dK (dkm (fs' ++ [y]) fun z => .str (S (if z = y then h else prev' z)))) := by
                  rw [upd_same]
                  exact congrArg (fun z => some (HO.dK z)) (dkm_cong fun z _ => by by_cases q : z = y <;> simp [q])
                generalize upd H' bk (.dK (dkm (fs' ++ [y]) fun z => if z = y then V.str (S h) else .str (S (prev' z)))) = H8 at SM8 bs8 hln8 hah8 hw8 hbk8
                -- lengths[place] = lengths[here] + length
                refine ⟨_, rfl, _, rfl, ln, .int (dist ts u h), rfl, by rw [← dkm_get (f := fun x => V.int (dist ts u x)) hh7]; exact DGet.k (k := Sum.inr (S h)) hln8, _, rfl, _, _, rfl, rfl, _, rfl, _, rfl, ln, _, rfl, DPut.k (k := Sum.inr (S y)) hln8 (szf _), ?_⟩
                rw [dkm_new hy]
                have SM9 := same_put (o := .dK (dkm (fs' ++ [y]) fun z => if z = y then V.int (dist ts u h + k) else .int (dist ts u z))) SM8 ln0
                have bs9 := bs8.off (o := .dK (dkm (fs' ++ [y]) fun z => if z = y then V.int (dist ts u h + k) else .int (dist ts u z))) (tkD hln8) Dln adln
                have hbk9 : (upd H8 ln (.dK (dkm (fs' ++ [y]) fun z => if z = y then V.int (dist ts u h + k) else .int (dist ts u z)))) bk = some (.dK (dkm (fs' ++ [y]) fun z => .str (S (if z = y then h else prev' z)))) := by rw [upd_ne bkln]; exact hbk8
                have hah9 : (upd H8 ln (.dK (dkm (fs' ++ [y]) fun z => if z = y then V.int (dist ts u h + k) else .int (dist ts u z)))) ah = some (.lst ((st''.map S).map V.str)) := by rw [upd_ne lnah.symm]; exact hah8
                have hw9 : (upd H8 ln (.dK (dkm (fs' ++ [y]) fun z => if z = y then V.int (dist ts u h + k) else .int (dist ts u z)))) (ad h) = some (.lst ws) := by rw [upd_ne (adln h hpl)]; exact hw8
                have hln9 : (upd H8 ln (.dK (dkm (fs' ++ [y]) fun z => if z = y then V.int (dist ts u h + k) else .int (dist ts u z)))) ln = some (.dK (dkm (fs' ++ [y]) fun z => .int (dist ts u z))) := by
                  rw [upd_same]
                  refine congrArg (fun z => some (HO.dK z)) (dkm_cong fun z _ => ?_)
                  by_cases q : z = y
                  · rw [if_pos q, q, e1]
                  · rw [if_neg q]
                generalize upd H8 ln (.dK (dkm (fs' ++ [y]) fun z => if z = y then V.int (dist ts u h + k) else .int (dist ts u z))) = H9 at SM9 bs9 hbk9 hah9 hw9 hln9
                -- ahead.append(place)
                have stl : st''.length ≤ 3000 := by omega
                refine ⟨_, rfl, .inl ⟨rfl, _, SqL.of hah9⟩, _, rfl, ah, _, _, rfl, rfl, hah9, by rw [List.length_map, List.length_map]; exact sz_lt (by omega), ?_⟩
                refine ⟨fs' ++ [y], st'' ++ [y], _, _, _, rfl, same_put SM9 ah0, bs9.off (TK.mut hah9) Dah adah, by rw [upd_ne (adah h hpl)]; exact hw9, by rw [upd_ne bkah]; exact hbk9, by rw [upd_ne lnah]; exact hln9, ?_, wk8, by rw [List.length_append]; omega, by rw [List.length_append, List.length_append]; omega, List.mem_append_left _ hh7, fun p hp => ?_⟩
                · rw [upd_same, List.map_append, List.map_append]
                  rfl
                · rw [et] at hp
                  rcases List.mem_append.mp hp with z | z
                  · exact List.mem_append_left _ (nb7 p z)
                  · rw [List.mem_singleton.mp z]
                    exact List.mem_append_right _ (List.mem_singleton.mpr rfl)
          · obtain ⟨fs', st'', prev', y7, y8, rfl, SM7, bs7, hw7, hbk7, hln7, hah7, wk7, le7, em7, hh7, nb7⟩ := hP
            refine ⟨fs', st'', prev', _, _, _, rfl, SM7, bs7, hbk7, hln7, hah7, wk7.shut fun y k ha => ?_, le7, em7⟩
            rw [wl, List.take_length] at nb7
            exact nb7 _ ((nbOf_adj ts h y k).mpr ha)
    · obtain ⟨fs, prev, x6, x7, x8, rfl, SM, hbk5, hln5, wk⟩ := hM
      refine ⟨_, rfl, _, rfl, (by show 2 ≤ sizeLine; decide), fun p np => ?_⟩
      refine q _ p bk ln fs prev (same_new SM np) ⟨upd_same, by rw [upd_ne (ne_of_none hbk5 np)]; exact hbk5, by rw [upd_ne (ne_of_none hln5 np)]; exact hln5, wk.all tr, wk.pr⟩
end
end Far

namespace Far
open PySem PySem.Spec PyProof.Rows L2
open C8 (pss_cut tCut)
open SX (S)
theorem inV_strsT (l : Nm) (ls : List Nm) : inV (.str (S l)) ((ls.map S).map V.str) = decide (l ∈ ls) := inV_strs l ls
theorem pl0_of {H : Hp} {v : V} {pl : List Nm} {ts : List Tie} (h : Dt H v (treeD pl ts)) : ∃ (t a b : Addr), v = .ref t ∧ H t = some (.tup [.ref a, .ref b]) ∧ TupAt H a ((pl.map S).map V.str) := by
  obtain ⟨t, a, b, vs, e, h1, h2, _⟩ := dt_tree h
  exact ⟨t, a, b, e, h1, h2⟩
abbrev s_check_places : Stmt := topS 6
abbrev N_check_places : List Str := ["tree", "names", "name"]
theorem sc_check_places : FnScope N_check_places ["tree", "names"] (defScope s_check_places) := ⟨rfl, rfl, rfl, by decide +kernel, rfl, by decide +kernel, by decide +kernel⟩
section
variable {P : Program} {w : World} {K : PySem.W.Frag} {mg : Str → Option Value} {base : Heap}
def spCheck : Sp := fun vs H Q _ => ∃ (v : V) (n : Addr) (pl ns : List Nm) (ts : List Tie), vs = [v, .ref n] ∧ Dt H v (treeD pl ts) ∧ H n = some (.tup ((ns.map S).map V.str)) ∧ (∀ x ∈ ns, x ∈ pl) ∧ Q .non H
theorem ok_check_places {f : Addr} {fd : FuncData} (F : Fun K "check_places" "check_places" s_check_places f fd) : FnOk P w K mg base CX0 1 f fd ["tree", "names"] spCheck := by
  refine F.ok sc_check_places (fun vs H Q E h => ?_) (fun cdv A outer s H vs Q E hr h => ?_)
  · obtain ⟨v, n, pl, ns, ts, rfl, _⟩ := h
    rfl
  · obtain ⟨v, n, pl, ns, ts, rfl, hd, hn, sub, q⟩ := h
    obtain ⟨t, a, b, rfl, ht, ha⟩ := pl0_of hd
    refine ⟨_, (pss_one (ps_for PassesOwn.never rfl (pi_tup (pv 1)) (pg_name (i := 2) sc_check_places.nd rfl (.inl rfl))
        (pss_one (ps_if (pt_cmpR op_notIn_seq (pv 2) (pe_ix ix_tup (pv 0) pe_int (fun _ _ => rfl)) rfl)
          (pss_one ps_never)
          pss_nil)))), ?_⟩
    refine ⟨_, rfl, n, rfl, ⟨_, SqT.of hn⟩, for_tup (K := K) (a := n) (xs := (ns.map S).map V.str) (fun i σ' H' => (∃ x2, σ' = [some (.ref t), some (.ref n), x2]) ∧ H' = H) ⟨⟨_, rfl⟩, rfl⟩ (fun i σ' H' _ hP => hP.2 ▸ SqT.of hn) (fun i x σ' H' hi hP => ?_) (fun σ' H' hP => hP.2 ▸ q)⟩
    obtain ⟨⟨x2, rfl⟩, rfl⟩ := hP
    obtain ⟨l, hl, rfl⟩ := strs_at (List.mem_of_getElem? hi)
    refine ⟨_, rfl, _, rfl, t, _, 0, .ref a, rfl, rfl, SqT.of ht, atI_nat (j := 0) rfl, a, _, rfl, .inr ha.sq, rfl, flat_strs pl, _, rfl, ?_⟩
    rw [inV_strs, decide_eq_true (sub l hl)]
    exact iteF ⟨⟨_, rfl⟩, rfl⟩
end
abbrev s_lengths_from : Stmt := topS 5
abbrev N_lengths_from : List Str := ["tree", "place", "_", "lengths", "name"]
theorem sc_lengths_from : FnScope N_lengths_from ["tree", "place"] (defScope s_lengths_from) := ⟨rfl, rfl, rfl, by decide +kernel, rfl, by decide +kernel, by decide +kernel⟩
section
variable {P : Program} {w : World} {K : PySem.W.Frag} {mg : Str → Option Value} {base : Heap}
def spLens : Sp := fun vs H Q _ => ∃ (v : V) (pl : List Nm) (ts : List Tie) (u : Nm), vs = [v, .str (S u)] ∧ Dt H v (treeD pl ts) ∧ Fine pl ts ∧ u ∈ pl ∧ ∀ (H' : Hp) (q : Addr), Same H H' → H q = none → H' q = some (.tup (pl.map fun x => .int (dist ts u x))) → Q (.ref q) H'
theorem lens_body {H1 : Hp} {q bk ln : Addr} {pl fs : List Nm} {ts : List Tie} {u : Nm} {prev : Nm → Nm} (W : Walked H1 q bk ln pl ts u fs prev) {x : Nm} (hx : x ∈ pl) {H' : Hp} (s : H' ln = H1 ln) : DGet H' ln (.str (S x)) (some (.int (dist ts u x))) := by
  have e := W.lens
  rw [← s] at e
  have := DGet.k (k := Sum.inr (S x)) e
  rw [dkm_get ((W.all x).mpr hx)] at this
  exact this
theorem ok_lengths_from {f : Addr} {fd : FuncData} (F : Fun K "lengths_from" "lengths_from" s_lengths_from f fd) (T : TxtW mg) (Ccheck_places : Cal P w K mg base 1 "check_places" spCheck) (Cwalk_from : Cal P w K mg base 2 "walk_from" spWalk) : FnOk P w K mg base CX0 3 f fd ["tree", "place"] spLens := by
  refine F.ok sc_lengths_from (fun vs H Q E h => ?_) (fun cdv A outer s H vs Q E hr h => ?_)
  · obtain ⟨v, pl, ts, u, rfl, _⟩ := h
    rfl
  · obtain ⟨v, pl, ts, u, rfl, hd, fine, hu, q⟩ := h
    obtain ⟨t, a, b, rfl, ht, ha⟩ := pl0_of hd
    refine ⟨_, (pss_cons (ps_expr (pe_c Ccheck_places hr (by decide) rfl (pa_cons (pv 0) (pa_cons (pe_tup (pa_cons (pv 1) pa_nil)) pa_nil))))
      (pss_cons (ps_asg (pe_c Cwalk_from hr (by decide) rfl (pa_cons (pv 0) (pa_cons (pv 1) pa_nil))) (pg_tup rfl (pgs_cons (pg_name (i := 2) sc_lengths_from.nd rfl (.inl rfl)) (pgs_cons (pg_name (i := 3) sc_lengths_from.nd rfl (.inr rfl)) pgs_nil))))
      (pss_one (ps_ret (pe_tupleOf (by rfl) T.tuple (pe_lc (own := [("name", 4)]) (g := gName 4) (tt := tYes) rfl sc_lengths_from.nd (pi_tup (pe_ix ix_tup (pv 0) pe_int (fun _ _ => rfl))) (blkOk_by (N := N_lengths_from) (sc := defScope s_lengths_from) (by decide +kernel)) (fun _ _ _ _ _ => pg_name (i := 4) sc_lengths_from.nd rfl (Or.inl rfl)) (fun _ _ _ _ _ => pts_nil) (fun _ _ _ _ _ => (pe_dget (hu_of hr) (pv 3) (pv 4) (fun _ _ => rfl))))))))), ?_⟩
    refine ⟨_, rfl, _, rfl, (by show 1 ≤ sizeLine; decide), fun p np => ?_⟩
    have s1 := same_new (o := .tup [.str (S u)]) (Same.refl H) np
    refine ⟨.ref t, p, pl, [u], ts, rfl, Dt.keep (TK.of s1) hd, upd_same, fun x hx => by rw [List.mem_singleton.mp hx]; exact hu, ?_⟩
    refine ⟨_, rfl, _, rfl, .ref t, pl, ts, u, rfl, Dt.keep (TK.of s1) hd, fine, hu, fun H1 g bk ln fs prev S1 W => ?_⟩
    have s2 := s1.trans S1
    refine ⟨g, _, rfl, SqT.of W.pair, rfl, _, _, rfl, _, _, rfl, rfl, ?_⟩
    refine ⟨_, rfl, t, _, 0, .ref a, rfl, rfl, SqT.of (s2 _ _ ht), atI_nat (j := 0) rfl, a, rfl, ⟨_, (ha.same s2).sq⟩, fun D nD => ?_⟩
    have Da : a ≠ D := (ha.same s2).ne nD
    have Dl : ln ≠ D := ne_of_none W.lens nD
    refine lc_tup (K := K) (a := a) (xs := (pl.map S).map V.str) (fun i H' => H' = upd H1 D (.lst ((pl.take i).map fun x => .int (dist ts u x)))) rfl (fun i H' _ hP => ?_) (fun i x H' hi hP => ?_) (fun H' hP => ?_)
    · rw [hP]
      exact ((ha.same s2).updN Da).sq
    · subst hP
      have pl1 := fine.len
      rw [List.getElem?_map, List.getElem?_map] at hi
      cases el : pl[i]? with
      | none =>
        rw [el] at hi
        cases hi
      | some l =>
        rw [el] at hi
        have ex : x = .str (S l) := (Option.some.inj hi).symm
        subst ex
        refine ⟨rfl, _, rfl, _, rfl, ln, .int (dist ts u l), rfl, lens_body W (List.mem_of_getElem? el) (upd_ne Dl), _, upd_same, by rw [List.length_map, List.length_take]; exact sz_lt (by omega), ?_⟩
        rw [upd_upd, List.take_add_one, el, List.map_append]
        rfl
    · subst hP
      rw [List.length_map, List.length_map, List.take_length]
      have s3 := same_new (o := .lst (pl.map fun x => V.int (dist ts u x))) s2 nD
      refine .inl ⟨D, _, rfl, SqL.of upd_same, fun r nr => ?_⟩
      exact q _ r (same_new s3 nr) (s3.free nr) upd_same
end
end Far

namespace Far
open PySem PySem.Spec PyProof.Rows L2
open C8 (pss_cut tCut)
open SX (S)
abbrev s_length_between : Stmt := topS 4
abbrev N_length_between : List Str := ["tree", "one", "other", "_", "lengths"]
theorem sc_length_between : FnScope N_length_between ["tree", "one", "other"] (defScope s_length_between) := ⟨rfl, rfl, rfl, by decide +kernel, rfl, by decide +kernel, by decide +kernel⟩
section
variable {P : Program} {w : World} {K : PySem.W.Frag} {mg : Str → Option Value} {base : Heap}
def spLen : Sp := fun vs H Q _ => ∃ (v : V) (pl : List Nm) (ts : List Tie) (u x : Nm), vs = [v, .str (S u), .str (S x)] ∧ Dt H v (treeD pl ts) ∧ Fine pl ts ∧ u ∈ pl ∧ x ∈ pl ∧ ∀ H' : Hp, Same H H' → Q (.int (dist ts u x)) H'
theorem ok_length_between {f : Addr} {fd : FuncData} (F : Fun K "length_between" "length_between" s_length_between f fd) (Ccheck_places : Cal P w K mg base 1 "check_places" spCheck) (Cwalk_from : Cal P w K mg base 2 "walk_from" spWalk) : FnOk P w K mg base CX0 3 f fd ["tree", "one", "other"] spLen := by
  refine F.ok sc_length_between (fun vs H Q E h => ?_) (fun cdv A outer s H vs Q E hr h => ?_)
  · obtain ⟨v, pl, ts, u, x, rfl, _⟩ := h
    rfl
  · obtain ⟨v, pl, ts, u, x, rfl, hd, fine, hu, hx, q⟩ := h
    refine ⟨_, (pss_cons (ps_expr (pe_c Ccheck_places hr (by decide) rfl (pa_cons (pv 0) (pa_cons (pe_tup (pa_cons (pv 1) (pa_cons (pv 2) pa_nil))) pa_nil))))
      (pss_cons (ps_asg (pe_c Cwalk_from hr (by decide) rfl (pa_cons (pv 0) (pa_cons (pv 1) pa_nil))) (pg_tup rfl (pgs_cons (pg_name (i := 3) sc_length_between.nd rfl (.inl rfl)) (pgs_cons (pg_name (i := 4) sc_length_between.nd rfl (.inl rfl)) pgs_nil))))
      (pss_one (ps_ret (pe_dget (hu_of hr) (pv 4) (pv 2) (fun _ _ => rfl)))))), ?_⟩
    refine ⟨_, rfl, _, rfl, _, rfl, (by show 2 ≤ sizeLine; decide), fun p np => ?_⟩
    have s1 := same_new (o := .tup [.str (S u), .str (S x)]) (Same.refl H) np
    refine ⟨v, p, pl, [u, x], ts, rfl, Dt.keep (TK.of s1) hd, upd_same, fun y hy => ?_, ?_⟩
    · rcases List.mem_cons.mp hy with z | z
      · exact z ▸ hu
      · exact (List.mem_singleton.mp z) ▸ hx
    refine ⟨_, rfl, _, rfl, v, pl, ts, u, rfl, Dt.keep (TK.of s1) hd, fine, hu, fun H1 g bk ln fs prev S1 W => ?_⟩
    refine ⟨g, _, rfl, SqT.of W.pair, rfl, _, _, rfl, _, _, rfl, rfl, ?_⟩
    exact ⟨_, rfl, _, rfl, ln, _, rfl, lens_body W hx rfl, q H1 (s1.trans S1)⟩
end
end Far

namespace Far
open PySem PySem.Spec PyProof.Rows L2
open C8 (pss_cut tCut)
open SX (S)
end Far

namespace Far
open PySem PySem.Spec PyProof.Rows L2
open C8 (pss_cut tCut)
open SX (S)
abbrev Tri := Int × Nm × Nm
def triD (x : Tri) : PyData := .tuple [.int x.1, .str (S x.2.1), .str (S x.2.2)]
/-- the pairs of place i with those behind it -/
noncomputable def rowP (pl : List Nm) (ts : List Tie) (i : Nat) : List Tri := (pl.drop (i + 1)).map fun y => (dist ts (pl.getD i []) y, pl.getD i [], y)
/-- those of the first n places -/
noncomputable def prs (pl : List Nm) (ts : List Tie) (n : Nat) : List Tri := (List.range n).flatMap (rowP pl ts)
/-- all pairs of two places, in order -/
noncomputable def pairsOf (pl : List Nm) (ts : List Tie) : List Tri := prs pl ts pl.length
theorem prs_succ (pl : List Nm) (ts : List Tie) (n : Nat) : prs pl ts (n + 1) = prs pl ts n ++ rowP pl ts n := by
  unfold prs
  rw [List.range_succ, List.flatMap_append, List.flatMap_singleton]
theorem rowP_len (pl : List Nm) (ts : List Tie) (i : Nat) : (rowP pl ts i).length = pl.length - (i + 1) := by
  unfold rowP
  rw [List.length_map, List.length_drop]
theorem prs_len (pl : List Nm) (ts : List Tie) : ∀ n, (prs pl ts n).length ≤ n * pl.length
  | 0 => Nat.zero_le _
  | n + 1 => by
    have ih := prs_len pl ts n
    rw [prs_succ, List.length_append, rowP_len, Nat.succ_mul]
    omega
theorem rowP_at {pl : List Nm} {ts : List Tie} {i j : Nat} {x y : Nm} (hx : pl[i]? = some x) (hy : pl[i + 1 + j]? = some y) : (rowP pl ts i)[j]? = some (dist ts x y, x, y) := by
  have ex : pl.getD i [] = x := by
    show (pl[i]?).getD [] = x
    rw [hx]
    rfl
  unfold rowP
  rw [ex, List.getElem?_map, List.getElem?_drop, hy]
  rfl
end Far

namespace Far
open PySem PySem.Spec PyProof.Rows L2
/-! ### enumerate(t), t a tuple -/
theorem meets_enumT {v : Value} {o : Obj} {H : Heap → Prop} (B : Begins v o H) :
    Meets (Builtin.«enumerate.__new__» ⟨[.type "enumerate", v], []⟩) (fun _ R s => H s.heap ∧
      R (.ok (.ret (.ref (s.heap.push o).objs.size))) { s with heap := (s.heap.push o).push { cls := .type "enumerate", data := .fields #[.none, .bool false, .ref s.heap.objs.size, rawInt 0, .none, .none] } }) :=
  .of_wp fun prog w A R s h => by
    obtain ⟨hp, g, d, tk, os⟩ := s; obtain ⟨h1, h⟩ := h
    have hsub := sub_enumerate
    have q1 : ∀ {A' : Around} {E : Value → Shared → Prop} {Q : Value → Shared → Prop}, Q (.ref hp.objs.size) ⟨hp.push o, g, d, tk, os⟩ → wpAny (model prog w) A' (pyIter v) Q E ⟨hp, g, d, tk, os⟩ :=
      fun q => B.iter prog w _ _ ⟨hp, g, d, tk, os⟩ _ h1 q
    wp_walk using q1
    refine wpAny_stack_any fun st => wpAny_pure ?_
    split
    · rename_i c _ _ _ _ _
      cases (c == Value.type "enumerate")
      · wp_walk using q1
        exact ⟨_, rfl, h⟩
      · wp_walk using q1
        exact ⟨_, rfl, h⟩
    · wp_walk using q1
      exact ⟨_, rfl, h⟩
theorem enumT_begins {prog : Program} {w : World} {A : Around} {E : Value → Shared → Prop} {s : Shared} {v : Value} {o : Obj} {H : Heap → Prop} {Q : Value → Shared → Prop} (B : Begins v o H) (h1 : H s.heap)
    (h : ∀ h', IsEnum h' (s.heap.objs.size + 1) s.heap.objs.size 0 .none → h'.get? s.heap.objs.size = some o → h'.objs.size = s.heap.objs.size + 2 →
      (∀ b o, s.heap.get? b = some o → h'.get? b = some o) → Q (.ref (s.heap.objs.size + 1)) { s with heap := h' }) :
    wpAny (model prog w) A (call (.type "enumerate") [v]) Q E s := by
  refine callType_new F.called_enumerate (by decide) (F.typeCall_enumerate_1 _) (F.newCall_enumerate_1 _) (fun obj => F.args_object_init_2 obj _) F.entry_enumerate_new
    (meets_enumT B) ⟨h1, ?_⟩
  have hz : (s.heap.push o).objs.size = s.heap.objs.size + 1 := Heap.size_push ..
  show _ ∧ _
  rw [hz]
  have he : IsEnum ((s.heap.push o).push { cls := .type "enumerate", data := .fields #[.none, .bool false, .ref s.heap.objs.size, rawInt 0, .none, .none] }) (s.heap.objs.size + 1) s.heap.objs.size 0 .none := by
    have := Heap.get?_push_size (s.heap.push o) (o := { cls := .type "enumerate", data := .fields #[.none, .bool false, .ref s.heap.objs.size, rawInt 0, .none, .none] }) rfl
    rw [hz] at this; exact this
  refine ⟨⟨_, he, rfl⟩, h _ he (Heap.get?_push_of_some _ (Heap.get?_push_size _ B.free)) (by rw [Heap.size_push, hz]) fun b o x => Heap.get?_push_of_some _ (Heap.get?_push_of_some _ x)⟩
/-- the tuple at a, each item in a new pair with its number -/
def Itne (K : PySem.W.Frag) (a : Addr) : It :=
  ⟨fun i H => ∃ (xs : List V) (x : V), SqT K H a xs ∧ xs[i]? = some x,
   fun i H v H' => ∃ T x, v = .ref T ∧ H T = none ∧ H' = upd H T (.tup [.int (i : Nat), x]) ∧ ∀ xs, SqT K H a xs → xs[i]? = some x,
   fun i H => ∃ xs : List V, SqT K H a xs ∧ xs.length ≤ i⟩
theorem turn_enumT {P : Program} {w : World} {K : PySem.W.Frag} {elts : List Expr} {kk : Nat} {tpos : Pos} (a e it : Addr) :
    Turn P w K (.Tuple elts kk tpos) (Itne K a) [e, it] e (fun i h => (∃ o, IsEnum h e it ((i : Nat) : Int) o) ∧ h.IsTupleIter it a i ∧ e ≠ it ∧ a ≠ it) where
  mem := by simp
  obj := fun i h st b hb => by
    obtain ⟨⟨o', he⟩, ⟨o, ho, hc, hd⟩, _⟩ := st
    rcases (show b = e ∨ b = it by simpa using hb) with rfl | rfl
    · exact ⟨_, he, fun v q => nomatch q⟩
    · exact ⟨o, ho, fun v q => by rw [hd] at q; cases q⟩
  keep := fun i h h' ⟨⟨o, he⟩, hi, hne⟩ k => ⟨⟨o, k e (by simp) _ he⟩, hi.at fun o q => k it (by simp) o q, hne⟩
  item := by
    intro X hP hw hK hc i pins s σ H E I hf st hg
    subst hP hw hK
    obtain ⟨⟨old, he⟩, hit, hne, hna⟩ := st
    obtain ⟨xs, x, hq, hx⟩ := hg
    obtain ⟨its, rv, p, hz⟩ := I.tuple hq
    have p' : s.heap.IsTuple a its.toArray := p
    obtain ⟨u, hu, ru⟩ := rv.get hx
    have hel : e < s.heap.objs.size := Heap.lt_size he
    have hil : it < s.heap.objs.size := by
      obtain ⟨_, q, _⟩ := hit
      exact Heap.lt_size q
    have hea : e ∉ [it, a] := by
      intro hm
      rcases List.mem_cons.mp hm with z | z
      · exact hne z
      · have z := List.mem_singleton.mp z
        obtain ⟨o, m, q, _⟩ := p'
        rw [← z, he] at m
        cases m
        have q : Value.type "enumerate" = Value.type "tuple" := q
        exact absurd q (by decide)
    have hlt : i < its.toArray.size := by
      have := (List.getElem?_eq_some_iff.mp hu).1
      simpa using this
    refine wpAny_pyNext_enum_itemC (Draws.tuple (A := X.A.in1) (I.ok.hd hc) it a hna its.toArray) he ⟨hit, p'⟩ hlt hne hea fun x' h' tk hx' ho hst' hT hsz hk => ?_
    have ex : x' = u := by
      have : its.toArray[i]? = some u := by simpa using hu
      exact Option.some.inj (hx'.symm.trans this)
    subst ex
    refine ⟨_, rfl, wpAny_letOwnedTupleGo_enum (s := { s with heap := h', toks := tk + 1 }) ho fun h2 he2 sb => ?_⟩
    have hT2 : h2.get? s.heap.objs.size = some { cls := .type "tuple", data := .seq #[.int (i : Nat) tk, x'] } := (sb.2 _ (Nat.ne_of_gt hel)).trans hT
    have new : ObjOk X.prog X.w (upd H s.heap.objs.size (.tup [.int (i : Nat), x])) h2 s.heap.objs.size (.tup [.int (i : Nat), x]) :=
      ⟨by show 2 ≤ sizeLine; decide, [.int (i : Nat) tk, x'], .cons ⟨_, rfl⟩ (.cons ru .nil), ⟨_, hT2, rfl, _, rfl⟩⟩
    have I1 : Inv X pins σ (upd H s.heap.objs.size (.tup [.int (i : Nat), x])) { s with heap := h2, toks := tk + 1 } :=
      I.turnedNew (ch := [e, it]) (fun b ob hb q => (sb.2 b (fun z => hb (by simp [z]))).trans (hk b ob (fun z => hb (by simp [z])) (fun z => hb (by simp [z])) q)) hf (Nat.le_refl _) new
    refine ⟨.ref s.heap.objs.size, _, I1, rfl, ⟨_, x, rfl, I.hok.fresh (Nat.le_refl _), rfl, fun ys hy => by rw [I.tuple_inj hy hq]; exact hx⟩, ⟨⟨x', ?_⟩, hst'.1.at fun o q => (sb.2 it (Ne.symm hne)).trans q, hne, hna⟩, fun b hb => ?_⟩
    · rw [show ((i + 1 : Nat) : Int) = (i : Nat) + 1 by omega]
      exact he2
    · have hb' : b < s.heap.objs.size := by
        rcases (show b = e ∨ b = it by simpa using hb) with z | z
        · rw [z]; exact hel
        · rw [z]; exact hil
      rw [upd_ne (Nat.ne_of_lt hb')]
      exact (hf b hb).1
  done := by
    intro X hP hw hK hc i pins s σ H E I hf st hg
    subst hP hw hK
    obtain ⟨⟨old, he⟩, hit, hne, hna⟩ := st
    obtain ⟨xs, hq, hx⟩ := hg
    obtain ⟨its, rv, p, hz⟩ := I.tuple hq
    have p' : s.heap.IsTuple a its.toArray := p
    obtain ⟨f0, f1, f2, f3, f4, f5⟩ := hf it (by simp)
    have hl := rv.length
    have D : Draws X.prog X.w X.A.in1 it [it, a] i (fun _ _ => True) (fun j h => (h.IsTupleIter it a j ∧ h.IsTuple a its.toArray) ∧ j = i) :=
      { live := fun _ _ st => let ⟨o, ho, _⟩ := st.1.1; ⟨o, ho⟩
        frame := fun _ _ _ st hk => ⟨⟨st.1.1.at fun o e => hk it (by simp) o e, st.1.2.at fun o e => hk a (by simp) o e⟩, st.2⟩
        item := fun j _ _ _ hj st _ => absurd st.2 (by omega)
        done := fun s Q E st hE => wpAny_nextOf_tuple_end (I.ok.hd hc) st.1.1 st.1.2 (by simp; omega) hE }
    exact wpAny_pyNext_enum_endD D he ⟨⟨hit, p'⟩, rfl⟩ fun h' eb => ⟨rfl, I.turned (t' := s.toks) (fun b o hb q => eb b o hb q) f0 f1 f3 f4 f5⟩
  self := fun A i s Q E st h => by
    obtain ⟨⟨_, he⟩, _⟩ := st
    exact wpAny_pyIter_enum he h
def iEnumT (K : PySem.W.Frag) (ta : TA) : TI := fun σ H R => ta σ H fun vs H1 => ∃ a xs, vs = [.ref a] ∧ SqT K H1 a xs ∧ R (Itne K a) H1
theorem pi_enumT {X : Cx} {e : Expr} {ta : TA} {p pos tpos : Pos} {elts : List Expr} {kk : Nat} (hg : Gl X "enumerate") (hm : X.mg "enumerate" = none) (ha : PA X [e] ta) (hs : starEach [e] X.env = [(false, eval e X.env)] := by rfl) :
    PI X (.Tuple elts kk tpos) (.Call (.Name "enumerate" p) [e] [] pos) (iEnumT X.K ta) := by
  refine ⟨fun pins s σ H R I h => ?_⟩
  refine Call_ (ld_blt I hg hm boot_enumerate (PyProof.Rows.callWith_type1 (thn (ha.run pos pins s σ H _ I h) fun us s1 ⟨vs, H1, I1, r1, q1⟩ => ?_) hs rfl))
  obtain ⟨a, xs, ex, hq, q⟩ := q1
  subst ex
  cases r1 with
  | cons r rr =>
    cases rr
    cases r
    obtain ⟨its, rv, p', hz⟩ := I1.tuple hq
    have p2 : s1.heap.IsTuple a its.toArray := p'
    refine enumT_begins (begins_tuple a its.toArray) p2 fun h' he hit hsz hk => wpAny_pyIter_enum he ?_
    have I2 : Inv X pins σ H1 { s1 with heap := h' } := I1.kept (t' := s1.toks) hk
    have hal : a < s1.heap.objs.size := by
      obtain ⟨o, m, _⟩ := p2
      exact Heap.lt_size m
    refine ⟨s1.heap.objs.size + 1, [s1.heap.objs.size + 1, s1.heap.objs.size], _, _, H1, rfl, I2, turn_enumT a (s1.heap.objs.size + 1) s1.heap.objs.size, ⟨⟨.none, by simpa using he⟩, ⟨_, hit, rfl, rfl⟩, Nat.succ_ne_self _, Nat.ne_of_lt hal⟩, fun b hb => ?_, q⟩
    have hle : s1.heap.objs.size ≤ b := by
      rcases (show b = s1.heap.objs.size + 1 ∨ b = s1.heap.objs.size by simpa using hb) with z | z
      · rw [z]; exact Nat.le_add_right _ _
      · rw [z]; exact Nat.le_refl _
    exact I1.fpOk hle (I1.hok.fresh hle)
end Far

namespace Far
open PySem PySem.Spec PyProof.Rows L2
open C8 (pss_cut tCut)
open SX (S)
structure TxtQ (mg : Str → Option Value) : Prop where
  len : mg "len" = none
  range : mg "range" = none
  tuple : mg "tuple" = none
  enumerate : mg "enumerate" = none
theorem szM {n : Nat} (h : n ≤ 10000000) : n < sizeLine := Nat.lt_of_le_of_lt h (by decide)
theorem for_enumT {K : PySem.W.Frag} {a : Addr} {xs : List V} {g : TG} {tb : TS} {D : Ends} {σ : L2.St} {H : Hp} (Pv : Nat → L2.St → Hp → Prop) (h0 : Pv 0 σ H) (hl : ∀ i σ H, Pv i σ H → SqT K H a xs)
    (hs : ∀ i x σ H T, xs[i]? = some x → Pv i σ H → H T = none → g (.ref T) σ (upd H T (.tup [.int (i : Nat), x])) fun σ2 H2 => tb { D with nx := Pv (i + 1), ct := Pv (i + 1), bk := D.nx } σ2 H2) (hd : ∀ σ H, Pv xs.length σ H → D.nx σ H) :
    ∃ W : Nat → Nat → L2.St → Hp → Prop, (∃ m, W 0 m σ H) ∧ ∀ i m σ H, W i m σ H →
      ((Itne K a).stop i H ∧ D.nx σ H) ∨ ((Itne K a).go i H ∧ ∃ N : L2.St → Hp → Prop, (∀ σ' H', N σ' H' → ∃ m', m' < m ∧ W (i + 1) m' σ' H') ∧ ∀ x H', (Itne K a).yld i H x H' → g x σ H' fun σ2 H2 => tb { D with nx := N, ct := N, bk := D.nx } σ2 H2) := by
  refine ⟨fun i m σ H => m = xs.length - i ∧ i ≤ xs.length ∧ Pv i σ H, ⟨xs.length, by simp, Nat.zero_le _, h0⟩, fun i m σ H ⟨em, hi, p⟩ => ?_⟩
  have q := hl i σ H p
  by_cases lt : i < xs.length
  · refine .inr ⟨⟨xs, xs[i], q, by simp [lt]⟩, Pv (i + 1), fun σ' H' p' => ⟨xs.length - (i + 1), by omega, rfl, lt, p'⟩, fun v H' ⟨T, x, ev, nT, eH, hx⟩ => ?_⟩
    rw [ev, eH]
    exact hs i x σ H T (hx xs q) p nT
  · have e : i = xs.length := by omega
    rw [e] at p
    exact .inl ⟨⟨xs, q, by omega⟩, hd σ H p⟩
abbrev s_pairs_in_order : Stmt := topS 14
abbrev N_pairs_in_order : List Str := ["tree", "places", "told", "number", "one", "lengths", "behind"]
theorem sc_pairs_in_order : FnScope N_pairs_in_order ["tree"] (defScope s_pairs_in_order) := ⟨rfl, rfl, rfl, by decide +kernel, rfl, by decide +kernel, by decide +kernel⟩
section
variable {P : Program} {w : World} {K : PySem.W.Frag} {mg : Str → Option Value} {base : Heap}
/-- what pairs_in_order tells -/
def spPio : Sp := fun vs H Q _ => ∃ (v : V) (pl : List Nm) (ts : List Tie), vs = [v] ∧ Dt H v (treeD pl ts) ∧ Fine pl ts ∧ ∀ (H' : Hp) (D : Addr) (ws : List V), Same H H' → H D = none → H' D = some (.lst ws) → DtAll H' ws ((pairsOf pl ts).map triD) → Q (.ref D) H'
theorem ok_pio {f : Addr} {fd : FuncData} (F : Fun K "pairs_in_order" "pairs_in_order" s_pairs_in_order f fd) (T : TxtQ mg) (Clengths_from : Cal P w K mg base 3 "lengths_from" spLens) : FnOk P w K mg base CX0 4 f fd ["tree"] spPio := by
  refine F.ok sc_pairs_in_order (fun vs H Q E h => ?_) (fun cdv A outer s H vs Q E hr h => ?_)
  · obtain ⟨v, pl, ts, rfl, _⟩ := h
    rfl
  · obtain ⟨v, pl, ts, rfl, hd, fine, q⟩ := h
    obtain ⟨t, a, b, vs, rfl, ht, ha, hb, hA⟩ := dt_tree hd
    refine ⟨_, (pss_cons (ps_set (i := 1) sc_pairs_in_order.nd rfl (.inl rfl) (pe_ix ix_tup (pv 0) pe_int (fun _ _ => rfl)))
      (pss_cons (ps_set (i := 2) sc_pairs_in_order.nd rfl (.inl rfl) (pe_lst pa_nil))
      (pss_cut (ps_for PassesOwn.never rfl (pi_enumT (by rfl) T.enumerate (pa_cons (pv 1) pa_nil)) (pg_tup rfl (pgs_cons (pg_name (i := 3) sc_pairs_in_order.nd rfl (.inl rfl)) (pgs_cons (pg_name (i := 4) sc_pairs_in_order.nd rfl (.inl rfl)) pgs_nil)))
        (pss_cons (ps_set (i := 5) sc_pairs_in_order.nd rfl (.inl rfl) (pe_c Clengths_from hr (by decide) rfl (pa_cons (pv 0) (pa_cons (pv 4) pa_nil))))
        (pss_one (ps_for PassesOwn.never rfl (pi_range2 (by rfl) T.range (pa_cons (pe_op op_add (pv 3) pe_int) (pa_cons (pe_callB call_len_seq (by rfl) T.len bt_len (pa_cons (pv 1) pa_nil)) pa_nil))) (pg_name (i := 6) sc_pairs_in_order.nd rfl (.inl rfl))
          (pss_one (ps_expr (pe_bm PySem.F.plainAttrs_list PySem.F.slot_list_append PySem.F.type_list_append mt_append (pv 2) (pa_cons (pe_tup (pa_cons (pe_ix ix_tup (pv 5) (pv 6) (fun _ _ => rfl)) (pa_cons (pv 4) (pa_cons (pe_ix ix_tup (pv 1) (pv 6) (fun _ _ => rfl)) pa_nil)))) pa_nil))))))))
      (pss_one (ps_ret (pv 2)))))), ?_⟩
    have p1000 := fine.len
    have sqn : ((pl.map S).map V.str).length = pl.length := by rw [List.length_map, List.length_map]
    refine ⟨_, rfl, t, _, 0, .ref a, rfl, rfl, SqT.of ht, atI_nat (j := 0) rfl, ?_⟩
    refine ⟨Nat.zero_le _, fun D nD => ?_⟩
    refine ⟨fun σ' H' => ∃ (x3 x4 x5 x6 : Option V) (ws : List V), σ' = [some (.ref t), some (.ref a), some (.ref D), x3, x4, x5, x6] ∧ Same H H' ∧ H' D = some (.lst ws) ∧ DtAll H' ws ((pairsOf pl ts).map triD), ?_, fun σ' H' hM => ?_⟩
    · have S2 := same_new (o := .lst []) (Same.refl H) nD
      refine ⟨_, rfl, a, _, rfl, (ha.same S2).sq, ?_⟩
      refine for_enumT (K := K) (a := a) (xs := (pl.map S).map V.str) (fun i σ' H' => ∃ (x3 x4 x5 x6 : Option V) (ws : List V), σ' = [some (.ref t), some (.ref a), some (.ref D), x3, x4, x5, x6] ∧ Same H H' ∧ H' D = some (.lst ws) ∧ DtAll H' ws ((prs pl ts i).map triD)) ⟨none, none, none, none, [], rfl, S2, upd_same, .nil⟩ (fun i σ' H' hP => ?_) (fun i v σ' H' u hi hP nu => ?_) (fun σ' H' hP => ?_)
      · obtain ⟨_, _, _, _, ws, rfl, SM, _⟩ := hP
        exact (ha.same SM).sq
      · obtain ⟨x3, x4, x5, x6, ws, rfl, SM, hD, hW⟩ := hP
        have gx : ∃ x, pl[i]? = some x ∧ v = .str (S x) := by
          rw [List.getElem?_map, List.getElem?_map] at hi
          cases el : pl[i]? with
          | none => rw [el] at hi; cases hi
          | some x => rw [el] at hi; exact ⟨x, rfl, (Option.some.inj hi).symm⟩
        obtain ⟨x, gx, rfl⟩ := gx
        have ip : i < pl.length := (List.getElem?_eq_some_iff.mp gx).1
        have hx : x ∈ pl := List.mem_of_getElem? gx
        have uD : u ≠ D := (ne_of_none hD nu).symm
        have S3 := same_new (o := .tup [.int (i : Nat), .str (S x)]) SM nu
        have tk3 : TK H' (upd H' u (.tup [.int (i : Nat), .str (S x)])) := TK.new nu
        have hD3 : (upd H' u (.tup [.int (i : Nat), .str (S x)])) D = some (.lst ws) := by rw [upd_ne uD.symm]; exact hD
        have hW3 := DtAll.keep tk3 hW
        have hu3 : (upd H' u (.tup [.int (i : Nat), .str (S x)])) u = some (.tup [.int (i : Nat), .str (S x)]) := upd_same
        clear hD hW tk3 nu SM
        generalize upd H' u (.tup [.int (i : Nat), .str (S x)]) = H3 at S3 hD3 hW3 hu3
        refine ⟨u, _, rfl, SqT.of hu3, rfl, _, _, rfl, _, _, rfl, rfl, ?_⟩
        refine ⟨_, rfl, _, rfl, .ref t, pl, ts, x, rfl, Dt.keep (TK.of S3) hd, fine, hx, fun H4 L S4 nL hL => ?_⟩
        have SM := S3.trans S4
        have hD := S4 _ _ hD3
        have hW := DtAll.keep (TK.of S4) hW3
        refine ⟨_, rfl, _, _, rfl, rfl, _, rfl, a, _, rfl, .inr (ha.same SM).sq, _, _, rfl, ⟨by omega, by omega, by rw [sqn]; omega, by rw [sqn]; omega⟩, ?_⟩
        refine for_range (lo := ((i : Nat) : Int) + 1) (n := ((((pl.map S).map V.str).length : Int) - (((i : Nat) : Int) + 1)).toNat) (fun j σ' H' => ∃ (x6 : Option V) (ws : List V), σ' = [some (.ref t), some (.ref a), some (.ref D), some (.int ((i : Nat) : Int)), some (.str (S x)), some (.ref L), x6] ∧ Same H H' ∧ H' L = some (.tup (pl.map fun z => .int (dist ts x z))) ∧ H' D = some (.lst ws) ∧ DtAll H' ws ((prs pl ts i ++ (rowP pl ts i).take j).map triD)) ⟨x6, ws, rfl, SM, hL, hD, by rw [List.take_zero, List.append_nil]; exact hW⟩ (fun j σ' H' hj hP => ?_) (fun σ' H' hP => ?_)
        · obtain ⟨x6, ws, rfl, S6, hL, hD, hW⟩ := hP
          rw [sqn] at hj
          have jp : i + 1 + j < pl.length := by omega
          have gy : pl[i + 1 + j]? = some pl[i + 1 + j] := List.getElem?_eq_getElem jp
          generalize pl[i + 1 + j] = y at gy
          have hy : y ∈ pl := List.mem_of_getElem? gy
          have ej : ((i : Nat) : Int) + 1 + (j : Int) = ((i + 1 + j : Nat) : Int) := by omega
          have wl : ws.length = (prs pl ts i ++ (rowP pl ts i).take j).length := by
            have := DtAll.len hW
            rwa [List.length_map] at this
          have b1 := prs_len pl ts i
          have b2 : i * pl.length ≤ 1000 * 1000 := Nat.mul_le_mul (by omega) p1000
          rw [List.length_append, List.length_take, rowP_len] at wl
          have gpy : ((pl.map S).map V.str)[i + 1 + j]? = some (.str (S y)) := by rw [List.getElem?_map, List.getElem?_map, gy]; rfl
          have gd : (pl.map fun z => V.int (dist ts x z))[i + 1 + j]? = some (.int (dist ts x y)) := by rw [List.getElem?_map, gy]; rfl
          refine ⟨_, rfl, .inl ⟨rfl, _, SqL.of hD⟩, _, rfl, _, rfl, L, _, ((i : Nat) : Int) + 1 + (j : Int), _, rfl, rfl, SqT.of hL, by rw [ej]; exact atI_nat gd, ?_⟩
          refine ⟨_, rfl, _, rfl, _, rfl, a, _, ((i : Nat) : Int) + 1 + (j : Int), _, rfl, rfl, (ha.same S6).sq, by rw [ej]; exact atI_nat gpy, (by show 3 ≤ sizeLine; decide), fun e ne => ?_⟩
          have hD2 : (upd H' e (.tup [.int (dist ts x y), .str (S x), .str (S y)])) D = some (.lst ws) := by
            rw [upd_ne (ne_of_none hD ne)]
            exact hD
          refine ⟨D, ws, _, rfl, rfl, hD2, szM (by omega), ?_⟩
          have tk : TK (upd H' e (.tup [.int (dist ts x y), .str (S x), .str (S y)])) (upd (upd H' e (.tup [.int (dist ts x y), .str (S x), .str (S y)])) D (.lst (ws ++ [.ref e]))) := TK.mut hD2
          have Le : L ≠ e := ne_of_none hL ne
          have LD : L ≠ D := ne_of hL hD (by intro z; cases z)
          refine ⟨_, ws ++ [.ref e], rfl, same_put (same_new S6 ne) nD, by rw [upd_ne LD, upd_ne Le]; exact hL, upd_same, ?_⟩
          rw [List.take_add_one, rowP_at gx gy, ← List.append_assoc, List.map_append]
          exact DtAll.app (DtAll.keep ((TK.new ne).trans tk) hW) (.cons (.tup (tk.tup _ _ upd_same) (.cons (.int _) (.cons (.str _) (.cons (.str _) .nil)))) .nil)
        · obtain ⟨x6, ws, rfl, S6, hL, hD, hW⟩ := hP
          refine ⟨_, _, _, _, ws, rfl, S6, hD, ?_⟩
          rw [sqn, List.take_of_length_le (by rw [rowP_len]; omega)] at hW
          rw [prs_succ]
          exact hW
      · obtain ⟨x3, x4, x5, x6, ws, rfl, SM, hD, hW⟩ := hP
        rw [sqn] at hW
        exact ⟨x3, x4, x5, x6, ws, rfl, SM, hD, hW⟩
    · obtain ⟨x3, x4, x5, x6, ws, rfl, SM, hD, hW⟩ := hM
      exact ⟨_, rfl, q H' D ws SM nD hD hW⟩
end
end Far

namespace Far
open PySem PySem.Spec PyProof.Rows L2
open C8 (pss_cut tCut)
open SX (S)
open RZ (ItzT iZipA pi_zipA)
theorem kit_cls (K : PySem.W.Frag) {a b : String} {r : Bool} (h : kitB a b = some r) : PySem.W.kitOne K (.type a) (.type b) = some r := kit_ty h
section
variable {P : Program} {w : World} {K : PySem.W.Frag} {mg : Str → Option Value} {base : Heap}
theorem zip_it {K : PySem.W.Frag} {a b : Addr} {xs ys : List V} {g : TG} {tt : TT} {te : TE} {vs : List Nat} {σ : L2.St} {H1 : Hp} {D : Addr} {Qd : Hp → Prop} (len : xs.length = ys.length) (Pv : Nat → Hp → Prop) (h0 : Pv 0 (upd H1 D (.lst []))) (hl : ∀ i H, Pv i H → SqT K H a xs ∧ SqT K H b ys)
    (hs : ∀ i x y H T, xs[i]? = some x → ys[i]? = some y → Pv i H → H T = none → g (.ref T) (wipe σ vs) (upd H T (.tup [x, y])) fun σ2 H2 => wipe σ2 vs = wipe σ vs ∧ tt σ2 H2 fun b H3 =>
      if b = true then te σ2 H3 fun y H4 => ∃ acc, H4 D = some (.lst acc) ∧ acc.length < sizeLine ∧ Pv (i + 1) (upd H4 D (.lst (acc ++ [y]))) else Pv (i + 1) H3) (hd : ∀ H, Pv xs.length H → Qd H) :
    ∃ W : Nat → Nat → Hp → Prop, (∃ m, W 0 m (upd H1 D (.lst []))) ∧ ∀ i m H, W i m H →
      ((ItzT K a b).stop i H ∧ Qd H) ∨ ((ItzT K a b).go i H ∧ ∃ Nx : Hp → Prop, (∀ H', Nx H' → ∃ m', m' < m ∧ W (i + 1) m' H') ∧ ∀ v H', (ItzT K a b).yld i H v H' → g v (wipe σ vs) H' fun σ2 H2 => wipe σ2 vs = wipe σ vs ∧ tt σ2 H2 fun b H3 =>
        if b = true then te σ2 H3 fun y H4 => ∃ acc, H4 D = some (.lst acc) ∧ acc.length < sizeLine ∧ Nx (upd H4 D (.lst (acc ++ [y]))) else Nx H3) := by
  refine ⟨fun i m H => m = xs.length - i ∧ i ≤ xs.length ∧ Pv i H, ⟨xs.length, by simp, Nat.zero_le _, h0⟩, fun i m H ⟨em, hi, p⟩ => ?_⟩
  obtain ⟨q1, q2⟩ := hl i H p
  by_cases lt : i < xs.length
  · have lt2 : i < ys.length := by omega
    refine .inr ⟨⟨xs, ys, xs[i], ys[i], q1, q2, by simp [lt], by simp [lt2]⟩, Pv (i + 1), fun H' p' => ⟨xs.length - (i + 1), by omega, rfl, lt, p'⟩, fun v H' ⟨T, x, y, ev, nT, eH, hx, hy⟩ => ?_⟩
    rw [ev, eH]
    exact hs i x y H T (hx xs q1) (hy ys q2) p nT
  · have e : i = xs.length := by omega
    rw [e] at p
    exact .inl ⟨⟨xs, ys, q1, q2, .inl (by omega)⟩, hd H p⟩
theorem dt_any {H : Hp} {u : V} {ds : List PyData} (h : Dt H u (.tuple ds)) : ∃ (a : Addr) (xs : List V), u = .ref a ∧ TupAt H a xs ∧ DtAll H xs ds := by
  cases h with
  | tup ha hs => exact ⟨_, _, rfl, .inl ha, hs⟩
  | @tupZ a pl _ o e n d ha =>
    subst e
    exact ⟨_, _, rfl, .inr ⟨o, d, ha⟩, dt_strs H pl⟩
theorem TupAt.ty {K : PySem.W.Frag} {H : Hp} {a : Addr} {xs : List V} (h : TupAt H a xs) : TyX K H (.ref a) (.type "tuple") := h.elim (fun h => .base (.tup h)) fun ⟨_, _, h⟩ => .fTuple h
end
end Far

namespace Far
open PySem PySem.Spec PyProof.Rows PyProof.V L2
/-! ### max, min, sum of a tuple of whole numbers -/
section
variable {prog : Program} {w : World} {A : Around} {E : Value → Shared → Prop} {s : Shared} {t : Addr} {xs : Array (Int × Tok)}
theorem iter_intTup {Q : Value → Shared → Prop} (hl : s.heap.IsTuple t (intItems xs))
    (h : ∀ s₂ : Shared, s₂ = { s with heap := s.heap.push { cls := .type "tuple_iterator", data := .fields #[.ref t, .int 0 0] } } →
      (s₂.heap.IsTupleIter s.heap.objs.size t 0 ∧ s₂.heap.IsTuple t (intItems xs)) → (∀ b ∈ [s.heap.objs.size, t], b < s₂.heap.objs.size) → t ≠ s.heap.objs.size → Q (.ref s.heap.objs.size) s₂) : wpAny (model prog w) A (pyIter (.ref t)) Q E s := by
  have hlt : t < s.heap.objs.size := by obtain ⟨_, e, _⟩ := hl; exact Heap.lt_size e
  refine wpAny_pyIter_tuple hl (h _ rfl ⟨⟨_, Heap.get?_push_size _ rfl, rfl, rfl⟩, hl.at fun o e => Heap.get?_push_of_some _ e⟩ (fun b hb => ?_) (Nat.ne_of_lt hlt))
  show b < (s.heap.push _).objs.size
  rw [Heap.size_push]
  rcases List.mem_cons.mp hb with rfl | hb
  · exact Nat.lt_succ_self _
  · rcases List.mem_cons.mp hb with rfl | hb
    · exact Nat.lt_succ_of_lt hlt
    · cases hb
theorem old_keptT {s : Shared} {o : Obj} {h' : Heap} (k : ∀ b o', b ∉ [s.heap.objs.size] → (s.heap.push o).get? b = some o' → h'.get? b = some o') : ∀ b o', s.heap.get? b = some o' → h'.get? b = some o' :=
  fun b o' e => k b o' (fun hb => absurd (Heap.lt_size e) ((List.mem_singleton.mp hb) ▸ Nat.lt_irrefl _)) (Heap.get?_push_of_some _ e)
theorem max_intTup {Q : Value → Shared → Prop} (hh : A.handled = none) (hl : s.heap.IsTuple t (intItems xs)) (hne : 0 < xs.size)
    (h : ∀ v h' tk, (intItems xs)[argBest (fun i j => decide (numAt xs i > numAt xs j)) (xs.size - 1)]? = some v → (∀ b o, s.heap.get? b = some o → h'.get? b = some o) → Q v { s with heap := h', toks := tk }) :
    wpAny (model prog w) A (call (.builtin "max") [.ref t]) Q E s := by
  refine call_max_walk (iter_intTup hl fun s₂ e st hfp hlI => ?_)
  subst e
  refine ⟨_, _, _, _, _, _, _, rfl, Walks.tuple (A := A.in1) hh _ t hlI (intItems xs), st, hfp, by simpa [intItems] using hne, CmpOf.ints_gt (numAt xs) (fun _ _ => intItems_at), fun v h' tk hP hk => ?_⟩
  exact h v h' tk (by simpa [intItems] using hP) (old_keptT hk)
theorem min_intTup {Q : Value → Shared → Prop} (hh : A.handled = none) (hl : s.heap.IsTuple t (intItems xs)) (hne : 0 < xs.size)
    (h : ∀ v h' tk, (intItems xs)[argBest (fun i j => decide (numAt xs i < numAt xs j)) (xs.size - 1)]? = some v → (∀ b o, s.heap.get? b = some o → h'.get? b = some o) → Q v { s with heap := h', toks := tk }) :
    wpAny (model prog w) A (call (.builtin "min") [.ref t]) Q E s := by
  refine call_min_walk (iter_intTup hl fun s₂ e st hfp hlI => ?_)
  subst e
  refine ⟨_, _, _, _, _, _, _, rfl, Walks.tuple (A := A.in1) hh _ t hlI (intItems xs), st, hfp, by simpa [intItems] using hne, CmpOf.ints_lt (numAt xs) (fun _ _ => intItems_at), fun v h' tk hP hk => ?_⟩
  exact h v h' tk (by simpa [intItems] using hP) (old_keptT hk)
variable {its : List Value} {ns : List Int}
theorem maxT_raw {Q : Value → Shared → Prop} (hh : A.handled = none) (hl : s.heap.IsTuple t its.toArray) (hi : IntsAre its ns) (hne : 0 < ns.length)
    (h : ∀ h' tk M t', (∀ b o, s.heap.get? b = some o → h'.get? b = some o) → M ∈ ns → (∀ a, a ∈ ns → a ≤ M) → Q (.int M t') { s with heap := h', toks := tk }) : wpAny (model prog w) A (call (.builtin "max") [.ref t]) Q E s := by
  obtain ⟨xs, e⟩ := hi.allInts.items
  have hn : numsOf (intItems xs).toList = ns := by rw [← e]; exact hi.numsOf
  rw [nums_intItems] at hn
  subst hn
  rw [e] at hl
  have hsz : 0 < xs.size := by simpa using hne
  refine max_intTup hh hl hsz fun v h' tk hv hk => ?_
  obtain ⟨t, rfl⟩ := intItems_at hv
  obtain ⟨h1, h2⟩ := argBest_gt (numAt xs) (xs.size - 1)
  refine h h' tk _ t hk ?_ fun a ha => ?_
  · rw [numAt_eq]; exact PySem.getD_mem (by rw [List.length_map, Array.length_toList]; omega)
  · obtain ⟨j, hj, rfl⟩ := mem_getD ha
    rw [List.length_map, Array.length_toList] at hj
    rw [← numAt_eq]; exact h2 j (by omega)
theorem minT_raw {Q : Value → Shared → Prop} (hh : A.handled = none) (hl : s.heap.IsTuple t its.toArray) (hi : IntsAre its ns) (hne : 0 < ns.length)
    (h : ∀ h' tk M t', (∀ b o, s.heap.get? b = some o → h'.get? b = some o) → M ∈ ns → (∀ a, a ∈ ns → M ≤ a) → Q (.int M t') { s with heap := h', toks := tk }) : wpAny (model prog w) A (call (.builtin "min") [.ref t]) Q E s := by
  obtain ⟨xs, e⟩ := hi.allInts.items
  have hn : numsOf (intItems xs).toList = ns := by rw [← e]; exact hi.numsOf
  rw [nums_intItems] at hn
  subst hn
  rw [e] at hl
  have hsz : 0 < xs.size := by simpa using hne
  refine min_intTup hh hl hsz fun v h' tk hv hk => ?_
  obtain ⟨t, rfl⟩ := intItems_at hv
  obtain ⟨h1, h2⟩ := argBest_lt (numAt xs) (xs.size - 1)
  refine h h' tk _ t hk ?_ fun a ha => ?_
  · rw [numAt_eq]; exact PySem.getD_mem (by rw [List.length_map, Array.length_toList]; omega)
  · obtain ⟨j, hj, rfl⟩ := mem_getD ha
    rw [List.length_map, Array.length_toList] at hj
    rw [← numAt_eq]; exact h2 j (by omega)
theorem sumT_raw {Q : Value → Shared → Prop} (hh : A.handled = none) (hl : s.heap.IsTuple t its.toArray) (hi : IntsAre its ns)
    (h : ∀ h' tk t', (∀ b o, s.heap.get? b = some o → h'.get? b = some o) → Q (.int ns.sum t') { s with heap := h', toks := tk }) : wpAny (model prog w) A (call (.builtin "sum") [.ref t]) Q E s := by
  obtain ⟨xs, e⟩ := hi.allInts.items
  have hn : numsOf (intItems xs).toList = ns := by rw [← e]; exact hi.numsOf
  rw [nums_intItems] at hn
  rw [e] at hl
  refine PySem.W.ktm_sumG hh hl fun h' tk t' hk => ?_
  have := h h' tk t' hk
  rw [preSum_eq, List.take_of_length_le (by simp), hn]; exact this
end
section
variable {X : Cx}
def rMaxT (K : PySem.W.Frag) : List V → Hp → VK → Prop := fun vs H Q => ∃ (a : Addr) (ns : List Int), vs = [V.ref a] ∧ SqT K H a (ns.map V.int) ∧ 0 < ns.length ∧ ∀ m, m ∈ ns → (∀ y, y ∈ ns → y ≤ m) → Q (.int m) H
def rMinT (K : PySem.W.Frag) : List V → Hp → VK → Prop := fun vs H Q => ∃ (a : Addr) (ns : List Int), vs = [V.ref a] ∧ SqT K H a (ns.map V.int) ∧ 0 < ns.length ∧ ∀ m, m ∈ ns → (∀ y, y ∈ ns → m ≤ y) → Q (.int m) H
def rSumT (K : PySem.W.Frag) : List V → Hp → VK → Prop := fun vs H Q => ∃ (a : Addr) (ns : List Int), vs = [V.ref a] ∧ SqT K H a (ns.map V.int) ∧ Q (.int ns.sum) H
theorem cr_maxT {K : PySem.W.Frag} (hc : X.calm = true) (eK : X.K = K := by rfl) : CallR X (.builtin "max") (rMaxT K) := by
  subst eK
  intro pins s σ H vs us Q I r h
  obtain ⟨a, ns, rfl, hs, hne, q⟩ := h
  obtain ⟨its, rv, hl, _⟩ := I.tuple hs
  rw [Vals.ref1 r]
  exact maxT_raw (I.ok.hd hc) hl rv.ints hne fun h' tk m t' hk h1 h2 => ⟨.int _, H, I.kept hk, ⟨_, rfl⟩, q m h1 h2⟩
theorem cr_minT {K : PySem.W.Frag} (hc : X.calm = true) (eK : X.K = K := by rfl) : CallR X (.builtin "min") (rMinT K) := by
  subst eK
  intro pins s σ H vs us Q I r h
  obtain ⟨a, ns, rfl, hs, hne, q⟩ := h
  obtain ⟨its, rv, hl, _⟩ := I.tuple hs
  rw [Vals.ref1 r]
  exact minT_raw (I.ok.hd hc) hl rv.ints hne fun h' tk m t' hk h1 h2 => ⟨.int _, H, I.kept hk, ⟨_, rfl⟩, q m h1 h2⟩
theorem cr_sumT {K : PySem.W.Frag} (hc : X.calm = true) (eK : X.K = K := by rfl) : CallR X (.builtin "sum") (rSumT K) := by
  subst eK
  intro pins s σ H vs us Q I r h
  obtain ⟨a, ns, rfl, hs, q⟩ := h
  obtain ⟨its, rv, hl, _⟩ := I.tuple hs
  rw [Vals.ref1 r]
  exact sumT_raw (I.ok.hd hc) hl rv.ints fun h' tk t' hk => ⟨.int _, H, I.kept hk, ⟨_, rfl⟩, q⟩
theorem cr_maxL {K : PySem.W.Frag} (hc : X.calm = true) (eK : X.K = K := by rfl) : CallR X (.builtin "max") (rMax K) := by subst eK; exact cr_max hc
theorem cr_minL {K : PySem.W.Frag} (hc : X.calm = true) (eK : X.K = K := by rfl) : CallR X (.builtin "min") (rMin K) := by subst eK; exact cr_min hc
theorem cr_sumL {K : PySem.W.Frag} (hc : X.calm = true) (eK : X.K = K := by rfl) : CallR X (.builtin "sum") (rSum K) := by subst eK; exact cr_sum hc
end
end Far

namespace Far
open PySem PySem.Spec PyProof.Rows L2
open C8 (pss_cut tCut)
open SX (S)
/-! ### the greatest and the least of whole numbers -/
def mxI : List Int → Int
  | [] => 0
  | x :: r => max x (mxI r)
def mxG : List Int → Int
  | [] => 0
  | [x] => x
  | x :: y :: r => max x (mxG (y :: r))
def mnG : List Int → Int
  | [] => 0
  | [x] => x
  | x :: y :: r => min x (mnG (y :: r))
theorem mxG_in : ∀ {l : List Int}, l ≠ [] → mxG l ∈ l ∧ ∀ y ∈ l, y ≤ mxG l
  | [], h => absurd rfl h
  | [x], _ => ⟨List.mem_singleton.mpr rfl, fun y hy => by rw [List.mem_singleton.mp hy]; exact Int.le_refl _⟩
  | x :: y :: r, _ => by
    obtain ⟨h1, h2⟩ := mxG_in (l := y :: r) (by intro z; cases z)
    show max x (mxG (y :: r)) ∈ _ ∧ _
    refine ⟨?_, fun z hz => ?_⟩
    · by_cases c : x ≤ mxG (y :: r)
      · rw [Int.max_eq_right c]
        exact List.mem_cons_of_mem _ h1
      · rw [Int.max_eq_left (by omega)]
        exact List.mem_cons_self ..
    · show z ≤ max x (mxG (y :: r))
      rcases List.mem_cons.mp hz with q | q
      · rw [q]
        exact Int.le_max_left _ _
      · exact Int.le_trans (h2 z q) (Int.le_max_right _ _)
theorem mnG_in : ∀ {l : List Int}, l ≠ [] → mnG l ∈ l ∧ ∀ y ∈ l, mnG l ≤ y
  | [], h => absurd rfl h
  | [x], _ => ⟨List.mem_singleton.mpr rfl, fun y hy => by rw [List.mem_singleton.mp hy]; exact Int.le_refl _⟩
  | x :: y :: r, _ => by
    obtain ⟨h1, h2⟩ := mnG_in (l := y :: r) (by intro z; cases z)
    show min x (mnG (y :: r)) ∈ _ ∧ _
    refine ⟨?_, fun z hz => ?_⟩
    · by_cases c : x ≤ mnG (y :: r)
      · rw [Int.min_eq_left c]
        exact List.mem_cons_self ..
      · rw [Int.min_eq_right (by omega)]
        exact List.mem_cons_of_mem _ h1
    · show min x (mnG (y :: r)) ≤ z
      rcases List.mem_cons.mp hz with q | q
      · rw [q]
        exact Int.min_le_left _ _
      · exact Int.le_trans (Int.min_le_right _ _) (h2 z q)
theorem mxG_is {l : List Int} {m : Int} (h1 : m ∈ l) (h2 : ∀ y ∈ l, y ≤ m) : m = mxG l := by
  obtain ⟨k1, k2⟩ := mxG_in (l := l) (by intro z; rw [z] at h1; cases h1)
  exact Int.le_antisymm (k2 m h1) (h2 _ k1)
theorem mnG_is {l : List Int} {m : Int} (h1 : m ∈ l) (h2 : ∀ y ∈ l, m ≤ y) : m = mnG l := by
  obtain ⟨k1, k2⟩ := mnG_in (l := l) (by intro z; rw [z] at h1; cases h1)
  exact Int.le_antisymm (h2 _ k1) (k2 m h1)
/-- how far a place is from its farthest -/
noncomputable def rch (pl : List Nm) (ts : List Tie) (u : Nm) : Int := mxG (pl.map fun x => dist ts u x)
theorem map_int (pl : List Nm) (f : Nm → Int) : (pl.map fun x => V.int (f x)) = (pl.map f).map V.int := by rw [List.map_map]; rfl
theorem at_name {pl : List Nm} {i : Nat} {v : V} (hi : ((pl.map S).map V.str)[i]? = some v) : ∃ x, pl[i]? = some x ∧ x ∈ pl ∧ v = .str (S x) ∧ pl.take (i + 1) = pl.take i ++ [x] := by
  rw [List.getElem?_map, List.getElem?_map] at hi
  cases el : pl[i]? with
  | none => rw [el] at hi; cases hi
  | some x => rw [el] at hi; exact ⟨x, rfl, List.mem_of_getElem? el, (Option.some.inj hi).symm, by rw [List.take_add_one, el]; rfl⟩
/-- the places whose number is n -/
def thoseD (pl : List Nm) (f : Nm → Int) (n : Int) : PyData := .tuple ((pl.filter fun x => f x == n).map strD)
theorem dts_S (H : Hp) : ∀ pl : List Nm, DtAll H ((pl.map S).map V.str) (pl.map strD)
  | [] => .nil
  | x :: r => .cons (.str _) (dts_S H r)
theorem dts_I (H : Hp) : ∀ ns : List Int, DtAll H (ns.map V.int) (ns.map PyData.int)
  | [] => .nil
  | x :: r => .cons (.int _) (dts_I H r)
theorem take_snoc_filter {pl : List Nm} {f : Nm → Int} {n : Int} {i : Nat} {x : Nm} (h : pl.take (i + 1) = pl.take i ++ [x]) : (pl.take (i + 1)).filter (fun x => f x == n) = (pl.take i).filter (fun x => f x == n) ++ (if f x = n then [x] else []) := by
  rw [h, List.filter_append]
  by_cases c : f x = n
  · rw [if_pos c, List.filter_cons, if_pos (by simp [c])]
    rfl
  · rw [if_neg c, List.filter_cons, if_neg (by simp [c])]
    rfl
end Far

namespace Far
open PySem PySem.Spec PyProof.Rows L2
open C8 (pss_cut tCut)
open SX (S)
/-! ### the greatest of triples -/
def best : List Tri → Int
  | [] => 0
  | x :: r => r.foldl (fun m y => max m y.1) x.1
theorem fold_max : ∀ (r : List Tri) (m : Int), (r.foldl (fun m y => max m y.1) m = m ∨ r.foldl (fun m y => max m y.1) m ∈ r.map (·.1)) ∧ m ≤ r.foldl (fun m y => max m y.1) m ∧ ∀ y ∈ r, y.1 ≤ r.foldl (fun m y => max m y.1) m
  | [], m => ⟨.inl rfl, Int.le_refl _, fun y hy => (by cases hy)⟩
  | x :: r, m => by
    obtain ⟨h1, h2, h3⟩ := fold_max r (max m x.1)
    refine ⟨?_, ?_, fun y hy => ?_⟩
    · show r.foldl _ (max m x.1) = m ∨ r.foldl _ (max m x.1) ∈ x.1 :: r.map (·.1)
      rcases h1 with h1 | h1
      · rw [h1]
        by_cases z : m ≤ x.1
        · exact .inr (by rw [Int.max_eq_right z]; exact List.mem_cons_self ..)
        · exact .inl (Int.max_eq_left (by omega))
      · exact .inr (List.mem_cons_of_mem _ h1)
    · show m ≤ r.foldl _ (max m x.1)
      exact Int.le_trans (Int.le_max_left _ _) h2
    · show y.1 ≤ r.foldl _ (max m x.1)
      rcases List.mem_cons.mp hy with z | z
      · rw [z]
        exact Int.le_trans (Int.le_max_right _ _) h2
      · exact h3 y z
theorem best_is {ps : List Tri} {m : Int} (h1 : m ∈ ps.map (·.1)) (h2 : ∀ y ∈ ps.map (·.1), y ≤ m) : best ps = m := by
  cases ps with
  | nil => cases h1
  | cons x r =>
    obtain ⟨k1, k2, k3⟩ := fold_max r x.1
    show r.foldl (fun m y => max m y.1) x.1 = m
    have a : r.foldl (fun m y => max m y.1) x.1 ≤ m := by
      rcases k1 with k1 | k1
      · rw [k1]
        exact h2 _ (List.mem_cons_self ..)
      · exact h2 _ (List.mem_cons_of_mem _ k1)
    have b : m ≤ r.foldl (fun m y => max m y.1) x.1 := by
      rcases List.mem_cons.mp h1 with z | z
      · rw [z]
        exact k2
      · obtain ⟨y, hy, e⟩ := List.mem_map.mp z
        rw [← e]
        exact k3 y hy
    omega
/-- the pairs of the greatest length, in order -/
noncomputable def farOf (pl : List Nm) (ts : List Tie) : List Tri := (pairsOf pl ts).filter fun x => x.1 == best (pairsOf pl ts)
/-- what farthest tells -/
noncomputable def farD (pl : List Nm) (ts : List Tie) : PyData := match farOf pl ts with
  | [] => .tuple [.int 0, .str (S (pl.headD [])), .str (S (pl.headD []))]
  | x :: _ => triD x
/-- what all_farthest tells -/
noncomputable def allD (pl : List Nm) (ts : List Tie) : PyData := .tuple ((farOf pl ts).map fun x => .tuple [.str (S x.2.1), .str (S x.2.2)])
theorem farOf_none {pl : List Nm} {ts : List Tie} (h : pairsOf pl ts = []) : farOf pl ts = [] := by
  unfold farOf
  rw [h]
  rfl
theorem mem_prs {pl : List Nm} {ts : List Tie} {x : Tri} : ∀ {n : Nat}, n ≤ pl.length → x ∈ prs pl ts n → x.2.1 ∈ pl ∧ x.2.2 ∈ pl ∧ x.1 = dist ts x.2.1 x.2.2
  | 0, _, h => by cases h
  | n + 1, hn, h => by
    rw [prs_succ] at h
    rcases List.mem_append.mp h with h | h
    · exact mem_prs (by omega) h
    · obtain ⟨y, hy, rfl⟩ := List.mem_map.mp h
      refine ⟨?_, List.mem_of_mem_drop hy, rfl⟩
      show pl.getD n [] ∈ pl
      have e : pl.getD n [] = pl[n]'(by omega) := by simp [List.getD, show n < pl.length by omega]
      rw [e]
      exact List.getElem_mem _
theorem mem_pairs {pl : List Nm} {ts : List Tie} {x : Tri} (h : x ∈ pairsOf pl ts) : x.2.1 ∈ pl ∧ x.2.2 ∈ pl ∧ x.1 = dist ts x.2.1 x.2.2 := mem_prs (Nat.le_refl _) h
theorem dt_tri {H : Hp} {v : V} {x : Tri} (h : Dt H v (triD x)) : ∃ t : Addr, v = .ref t ∧ H t = some (.tup [.int x.1, .str (S x.2.1), .str (S x.2.2)]) := by
  obtain ⟨t, xs, rfl, ht, hs⟩ := dt_tup h fun _ => ⟨.int x.1, by simp, fun l z => nomatch z⟩
  cases hs with
  | cons h1 hr =>
    cases hr with
    | cons h2 hr =>
      cases hr with
      | cons h3 hr =>
        cases hr
        cases h1
        cases h2
        cases h3
        exact ⟨t, rfl, ht⟩
theorem lay_tris : ∀ {xs : List Tri}, (∀ x ∈ xs, NameOk x.2.1 ∧ NameOk x.2.2) → PyData.canLayAll0 (xs.map triD) = true
  | [], _ => rfl
  | x :: r, h => by
    obtain ⟨h1, h2⟩ := h x (List.mem_cons_self ..)
    have ih := lay_tris fun y hy => h y (List.mem_cons_of_mem _ hy)
    show (PyData.canLay0 (triD x) && PyData.canLayAll0 (r.map triD)) = true
    rw [ih, Bool.and_true]
    show (true && (PyData.strOk (S x.2.1) && (PyData.strOk (S x.2.2) && true))) = true
    rw [strOk_S h1, strOk_S h2]
    rfl
theorem dep_tris : ∀ xs : List Tri, PyData.depthAll (xs.map triD) ≤ 1
  | [] => Nat.zero_le _
  | x :: r => by
    show max (PyData.depth (triD x)) (PyData.depthAll (r.map triD)) ≤ 1
    have ih := dep_tris r
    have e : PyData.depth (triD x) = 1 := rfl
    rw [e]
    omega
theorem shaped_tris {xs : List Tri} (h : ∀ x ∈ xs, NameOk x.2.1 ∧ NameOk x.2.2) : SeqAt.shaped (.list (xs.map triD)) = true := by
  show (PyData.canLayAll0 (xs.map triD) && decide (PyData.depthAll (xs.map triD) + 1 ≤ 64)) = true
  have := dep_tris xs
  rw [lay_tris h, decide_eq_true (by omega)]
  rfl
end Far

namespace Far
open PySem PySem.Spec PyProof.Rows L2
open C8 (pss_cut tCut)
open SX (S)
/-! ### the first of the greatest, by going along -/
def topT : Tri → List Tri → Tri := List.foldl fun m y => if y.1 > m.1 then y else m
theorem topT_snoc (m : Tri) (ps : List Tri) (y : Tri) : topT m (ps ++ [y]) = if y.1 > (topT m ps).1 then y else topT m ps := by
  unfold topT
  rw [List.foldl_append]
  rfl
theorem topT_is : ∀ (ps : List Tri) (m : Tri), (topT m ps = m ∧ ∀ y ∈ ps, y.1 ≤ m.1) ∨ (m.1 < (topT m ps).1 ∧ (∃ r, ps.filter (fun x => x.1 == (topT m ps).1) = topT m ps :: r) ∧ ∀ y ∈ ps, y.1 ≤ (topT m ps).1)
  | [], m => .inl ⟨rfl, fun y hy => (by cases hy)⟩
  | y :: t, m => by
    by_cases c : y.1 > m.1
    · have e : topT m (y :: t) = topT y t := by
        show topT (if y.1 > m.1 then y else m) t = _
        rw [if_pos c]
      rw [e]
      rcases topT_is t y with ⟨h1, h2⟩ | ⟨h1, ⟨r, h2⟩, h3⟩
      · refine .inr ⟨by rw [h1]; exact c, ⟨t.filter fun x => x.1 == y.1, ?_⟩, fun z hz => ?_⟩
        · rw [h1, List.filter_cons, if_pos (by simp)]
        · rw [h1]
          rcases List.mem_cons.mp hz with q | q
          · rw [q]
            exact Int.le_refl _
          · exact h2 z q
      · refine .inr ⟨by omega, ⟨r, ?_⟩, fun z hz => ?_⟩
        · rw [List.filter_cons, if_neg (by simp; omega)]
          exact h2
        · rcases List.mem_cons.mp hz with q | q
          · rw [q]
            omega
          · exact h3 z q
    · have e : topT m (y :: t) = topT m t := by
        show topT (if y.1 > m.1 then y else m) t = _
        rw [if_neg c]
      rw [e]
      rcases topT_is t m with ⟨h1, h2⟩ | ⟨h1, ⟨r, h2⟩, h3⟩
      · refine .inl ⟨h1, fun z hz => ?_⟩
        rcases List.mem_cons.mp hz with q | q
        · rw [q]
          omega
        · exact h2 z q
      · refine .inr ⟨h1, ⟨r, ?_⟩, fun z hz => ?_⟩
        · rw [List.filter_cons, if_neg (by simp; omega)]
          exact h2
        · rcases List.mem_cons.mp hz with q | q
          · rw [q]
            omega
          · exact h3 z q
theorem IsTree.pos {pl : List Nm} {ts : List Tie} (F : IsTree pl ts) {u x : Nm} (hu : u ∈ pl) (hx : x ∈ pl) (n : u ≠ x) : 1 ≤ dist ts u x := by
  have w := F.the_way hu hx
  have k := Way.nonneg (fun e he => (F.ties e he).2.2.1) w
  obtain ⟨q, e1⟩ := w.first
  obtain ⟨q', e2⟩ := w.last
  have l2 : 2 ≤ (path ts u x).length := by
    cases q with
    | nil =>
      rw [e1] at e2
      have := congrArg List.getLast? e2
      rw [List.getLast?_append] at this
      simp at this
      exact absurd this n
    | cons a r =>
      rw [e1]
      simp
  omega
theorem prs_ne {pl : List Nm} {ts : List Tie} (nd : pl.Nodup) {x : Tri} : ∀ {n : Nat}, n ≤ pl.length → x ∈ prs pl ts n → x.2.1 ≠ x.2.2
  | 0, _, h => by cases h
  | n + 1, hn, h => by
    rw [prs_succ] at h
    rcases List.mem_append.mp h with h | h
    · exact prs_ne nd (by omega) h
    · obtain ⟨y, hy, rfl⟩ := List.mem_map.mp h
      show pl.getD n [] ≠ y
      have e : pl.getD n [] = pl[n]'(by omega) := by simp [List.getD, show n < pl.length by omega]
      rw [e]
      intro z
      obtain ⟨j, hj, ej⟩ := List.mem_iff_getElem.mp hy
      rw [List.getElem_drop, ← z] at ej
      rw [List.length_drop] at hj
      have := (List.getElem_inj nd).mp ej
      omega
theorem pairs_pos {pl : List Nm} {ts : List Tie} (F : Fine pl ts) {x : Tri} (h : x ∈ pairsOf pl ts) : 1 ≤ x.1 := by
  obtain ⟨h1, h2, h3⟩ := mem_pairs h
  rw [h3]
  exact F.tree.pos h1 h2 (prs_ne F.tree.nodup (Nat.le_refl _) h)
theorem farD_top {pl : List Nm} {ts : List Tie} (F : Fine pl ts) : farD pl ts = triD (topT (0, pl.headD [], pl.headD []) (pairsOf pl ts)) ∧ (pairsOf pl ts ≠ [] → (topT (0, pl.headD [], pl.headD []) (pairsOf pl ts)).1 = best (pairsOf pl ts)) := by
  have hp : ∀ x ∈ pairsOf pl ts, 1 ≤ x.1 := fun x hx => pairs_pos F hx
  unfold farD farOf
  generalize pairsOf pl ts = ps at hp
  rcases topT_is ps (0, pl.headD [], pl.headD []) with ⟨h1, h2⟩ | ⟨h1, ⟨r, h2⟩, h3⟩
  · cases ps with
    | nil => exact ⟨by rw [h1]; rfl, fun z => absurd rfl z⟩
    | cons x r =>
      have a := hp x (List.mem_cons_self ..)
      have b := h2 x (List.mem_cons_self ..)
      exact absurd b (by show ¬ x.1 ≤ 0; omega)
  · generalize topT (0, pl.headD [], pl.headD []) ps = m at *
    have hb : best ps = m.1 := by
      refine best_is (List.mem_map.mpr ⟨m, ?_, rfl⟩) fun y hy => ?_
      · have : m ∈ ps.filter fun x => x.1 == m.1 := by
          rw [h2]
          exact List.mem_cons_self ..
        exact (List.mem_filter.mp this).1
      · obtain ⟨z, hz, rfl⟩ := List.mem_map.mp hy
        exact h3 z hz
    rw [hb, h2]
    exact ⟨rfl, fun _ => rfl⟩
abbrev s_farthest : Stmt := topS 10
abbrev N_farthest : List Str := ["tree", "first", "told", "pair"]
theorem sc_farthest : FnScope N_farthest ["tree"] (defScope s_farthest) := ⟨rfl, rfl, rfl, by decide +kernel, rfl, by decide +kernel, by decide +kernel⟩
abbrev s_all_farthest : Stmt := topS 11
abbrev N_all_farthest : List Str := ["tree", "greatest", "pairs", "length", "one", "other"]
theorem sc_all_farthest : FnScope N_all_farthest ["tree"] (defScope s_all_farthest) := ⟨rfl, rfl, rfl, by decide +kernel, rfl, by decide +kernel, by decide +kernel⟩
section
variable {P : Program} {w : World} {K : PySem.W.Frag} {mg : Str → Option Value} {base : Heap}
def spFarthest : Sp := fun vs H Q _ => ∃ (v : V) (pl : List Nm) (ts : List Tie), vs = [v] ∧ Dt H v (treeD pl ts) ∧ Fine pl ts ∧ ∀ (H' : Hp) (r : V), Same H H' → Dt H' r (farD pl ts) → Q r H'
def spAllFarthest : Sp := fun vs H Q _ => ∃ (v : V) (pl : List Nm) (ts : List Tie), vs = [v] ∧ Dt H v (treeD pl ts) ∧ Fine pl ts ∧ ∀ (H' : Hp) (r : V), Same H H' → Dt H' r (allD pl ts) → Q r H'
theorem ok_farthest {f : Addr} {fd : FuncData} (F : Fun K "farthest" "farthest" s_farthest f fd) (Cpairs_in_order : Cal P w K mg base 4 "pairs_in_order" spPio) : FnOk P w K mg base CX0 5 f fd ["tree"] spFarthest := by
  refine F.ok sc_farthest (fun vs H Q E h => ?_) (fun cdv A outer s H vs Q E hr h => ?_)
  · obtain ⟨v, pl, ts, rfl, _⟩ := h
    rfl
  · obtain ⟨v, pl, ts, rfl, hd, fine, q⟩ := h
    obtain ⟨t, a, b, vs, rfl, ht, ha, hb, hA⟩ := dt_tree hd
    refine ⟨_, (pss_cons (ps_set (i := 1) sc_farthest.nd rfl (.inl rfl) (pe_ix ix_tup (pe_ix ix_tup (pv 0) pe_int (fun _ _ => rfl)) pe_int (fun _ _ => rfl)))
      (pss_cons (ps_set (i := 2) sc_farthest.nd rfl (.inl rfl) (pe_tup (pa_cons pe_int (pa_cons (pv 1) (pa_cons (pv 1) pa_nil)))))
      (pss_cut (ps_for PassesOwn.never rfl (pi_list (pe_c Cpairs_in_order hr (by decide) rfl (pa_cons (pv 0) pa_nil))) (pg_name (i := 3) sc_farthest.nd rfl (.inl rfl))
        (pss_one (ps_if (pt_cmpR op_gt (pe_ix ix_tup (pv 3) pe_int (fun _ _ => rfl)) (pe_ix ix_tup (pv 2) pe_int (fun _ _ => rfl)) (nomark _))
          (pss_one (ps_set (i := 2) sc_farthest.nd rfl (.inl rfl) (pv 3)))
          pss_nil)))
      (pss_one (ps_ret (pv 2)))))), ?_⟩
    obtain ⟨p0, pr, epl⟩ : ∃ p0 pr, pl = p0 :: pr := by
      cases hp : pl with
      | nil => exact absurd hp fine.ne
      | cons a r => exact ⟨a, r, rfl⟩
    have g0 : ((pl.map S).map V.str)[0]? = some (.str (S p0)) := by rw [epl]; rfl
    refine ⟨_, rfl, t, _, 0, .ref a, rfl, rfl, SqT.of ht, atI_nat (j := 0) rfl, a, _, 0, _, rfl, rfl, ha.sq, atI_nat (j := 0) g0, ?_⟩
    refine ⟨_, rfl, _, rfl, (by show 3 ≤ sizeLine; decide), fun T0 nT0 => ?_⟩
    have S1 := same_new (o := .tup [.int 0, .str (S p0), .str (S p0)]) (Same.refl H) nT0
    have h0 : (upd H T0 (.tup [.int 0, .str (S p0), .str (S p0)])) T0 = some (.tup [.int 0, .str (S p0), .str (S p0)]) := upd_same
    generalize upd H T0 (.tup [.int 0, .str (S p0), .str (S p0)]) = H1 at S1 h0
    refine ⟨fun σ' H' => ∃ (r : Addr) (x3 : Option V), σ' = [some (.ref t), some (.str (S p0)), some (.ref r), x3] ∧ Same H H' ∧ Dt H' (.ref r) (triD (topT (0, pl.headD [], pl.headD []) (pairsOf pl ts))), ?_, fun σ' H' hM => ?_⟩
    · refine ⟨_, rfl, .ref t, pl, ts, rfl, Dt.keep (TK.of S1) hd, fine, fun H2 D ws S2 nD hD hW => ?_⟩
      have wl := DtAll.len hW
      rw [List.length_map] at wl
      refine ⟨D, rfl, ⟨_, SqL.of hD⟩, for_list (K := K) (a := D) (xs := ws) (fun i σ' H' => H' = H2 ∧ ∃ (r : Addr) (x3 : Option V), σ' = [some (.ref t), some (.str (S p0)), some (.ref r), x3] ∧ H2 r = some (.tup [.int (topT (0, pl.headD [], pl.headD []) ((pairsOf pl ts).take i)).1, .str (S (topT (0, pl.headD [], pl.headD []) ((pairsOf pl ts).take i)).2.1), .str (S (topT (0, pl.headD [], pl.headD []) ((pairsOf pl ts).take i)).2.2)])) ⟨rfl, T0, none, rfl, ?_⟩ (fun i σ' H' _ hP => by rw [hP.1]; exact SqL.of hD) (fun i v σ' H' hi hP => ?_) (fun σ' H' hP => ?_)⟩
      · rw [List.take_zero]
        show H2 T0 = some (.tup [.int 0, .str (S (pl.headD [])), .str (S (pl.headD []))])
        rw [epl]
        exact S2 _ _ h0
      · obtain ⟨rfl, r, x3, rfl, hr2⟩ := hP
        obtain ⟨d, hd, hx⟩ := DtAll.get hW hi
        rw [List.getElem?_map] at hd
        cases ee : (pairsOf pl ts)[i]? with
        | none => rw [ee] at hd; cases hd
        | some y =>
          rw [ee] at hd
          have ed : d = triD y := (Option.some.inj hd).symm
          subst ed
          obtain ⟨u, rfl, hu⟩ := dt_tri hx
          have et : (pairsOf pl ts).take (i + 1) = (pairsOf pl ts).take i ++ [y] := by
            rw [List.take_add_one, ee]
            rfl
          rw [et, topT_snoc]
          refine ⟨_, rfl, u, _, 0, _, rfl, rfl, SqT.of hu, atI_nat (j := 0) rfl, _, rfl, r, _, 0, _, rfl, rfl, SqT.of hr2, atI_nat (j := 0) rfl, _, _, rfl, rfl, _, rfl, ?_⟩
          refine ite2 (fun z => ?_) (fun z => ?_)
          · have z : y.1 > (topT (0, pl.headD [], pl.headD []) ((pairsOf pl ts).take i)).1 := of_decide_eq_true z
            rw [if_pos z]
            exact ⟨_, rfl, rfl, u, _, rfl, hu⟩
          · have z : ¬ y.1 > (topT (0, pl.headD [], pl.headD []) ((pairsOf pl ts).take i)).1 := fun k => z (decide_eq_true k)
            rw [if_neg z]
            exact ⟨rfl, r, _, rfl, hr2⟩
      · obtain ⟨rfl, r, x3, rfl, hr2⟩ := hP
        rw [wl, List.take_length] at hr2
        exact ⟨r, x3, rfl, S1.trans S2, .tup hr2 (.cons (.int _) (.cons (.str _) (.cons (.str _) .nil)))⟩
    · obtain ⟨r, x3, rfl, SM, hr2⟩ := hM
      refine ⟨_, rfl, q H' _ SM ?_⟩
      rw [(farD_top fine).1]
      exact hr2
theorem ok_all_farthest {f : Addr} {fd : FuncData} (F : Fun K "all_farthest" "all_farthest" s_all_farthest f fd) (T : TxtQ mg) (Cpairs_in_order : Cal P w K mg base 4 "pairs_in_order" spPio) (Cfarthest : Cal P w K mg base 5 "farthest" spFarthest) : FnOk P w K mg base CX0 6 f fd ["tree"] spAllFarthest := by
  refine F.ok sc_all_farthest (fun vs H Q E h => ?_) (fun cdv A outer s H vs Q E hr h => ?_)
  · obtain ⟨v, pl, ts, rfl, _⟩ := h
    rfl
  · obtain ⟨v, pl, ts, rfl, hd, fine, q⟩ := h
    refine ⟨_, (pss_cons (ps_set (i := 1) sc_all_farthest.nd rfl (.inr rfl) (pe_ix ix_tup (pe_c Cfarthest hr (by decide) rfl (pa_cons (pv 0) pa_nil)) pe_int (fun _ _ => rfl)))
      (pss_cons (ps_set (i := 2) sc_all_farthest.nd rfl (.inl rfl) (pe_c Cpairs_in_order hr (by decide) rfl (pa_cons (pv 0) pa_nil)))
      (pss_one (ps_ret (pe_tupleOf (by rfl) T.tuple (pe_lc (own := [("length", 3), ("one", 4), ("other", 5)]) (g := gTup K 3 (gCons (gName 3) (gCons (gName 4) (gCons (gName 5) gNil))))  rfl sc_all_farthest.nd (pi_list (pv 2)) (blkOk_by (N := N_all_farthest) (sc := defScope s_all_farthest) (by decide +kernel)) (fun _ _ _ _ _ => (pg_tup rfl (pgs_cons (pg_name (i := 3) sc_all_farthest.nd rfl (.inl rfl)) (pgs_cons (pg_name (i := 4) sc_all_farthest.nd rfl (.inl rfl)) (pgs_cons (pg_name (i := 5) sc_all_farthest.nd rfl (.inl rfl)) pgs_nil))))) (fun _ _ _ _ _ => pts_one (pt_cmpR op_eq (pv 3) (pv 1) (nomark _))) (fun _ _ _ _ _ => (pe_tup (pa_cons (pv 4) (pa_cons (pv 5) pa_nil)))))))))), ?_⟩
    refine ⟨_, rfl, v, pl, ts, rfl, hd, fine, fun H1 r S1 hr1 => ?_⟩
    obtain ⟨e1, e2⟩ := farD_top fine
    rw [e1] at hr1
    generalize topT (0, pl.headD [], pl.headD []) (pairsOf pl ts) = top at e2 hr1
    obtain ⟨u, rfl, hu⟩ := dt_tri hr1
    refine ⟨u, _, 0, _, rfl, rfl, SqT.of hu, atI_nat (j := 0) rfl, ?_⟩
    refine ⟨_, rfl, v, pl, ts, rfl, Dt.keep (TK.of S1) hd, fine, fun H2 D ws S2 nD hD hW => ?_⟩
    have wl := DtAll.len hW
    rw [List.length_map] at wl
    have p1000 := fine.len
    have pl1 : (pairsOf pl ts).length ≤ 1000 * 1000 := Nat.le_trans (prs_len pl ts _) (Nat.mul_le_mul p1000 p1000)
    have hf : (pairsOf pl ts).filter (fun x => x.1 == top.1) = farOf pl ts := by
      unfold farOf
      cases hp : pairsOf pl ts with
      | nil => rfl
      | cons a r => rw [← hp, e2 (by rw [hp]; intro z; cases z)]
    refine ⟨_, rfl, D, rfl, ⟨_, SqL.of hD⟩, fun C nC => ?_⟩
    have DC : D ≠ C := ne_of_none hD nC
    refine lc_list (K := K) (a := D) (xs := ws) (fun i H' => ∃ us, Same H2 H' ∧ H' C = some (.lst us) ∧ DtAll H' us ((((pairsOf pl ts).take i).filter fun x => x.1 == top.1).map fun x => .tuple [.str (S x.2.1), .str (S x.2.2)])) ⟨[], same_new (Same.refl H2) nC, upd_same, .nil⟩ (fun i H' _ hP => ?_) (fun i v H' hi hP => ?_) (fun H' hP => ?_)
    · obtain ⟨us, sm, _⟩ := hP
      exact SqL.of (sm _ _ hD)
    · obtain ⟨us, sm, hC, hU⟩ := hP
      have ul := DtAll.len hU
      rw [List.length_map] at ul
      have fi : (((pairsOf pl ts).take i).filter fun x => x.1 == top.1).length ≤ 1000 * 1000 := by
        refine Nat.le_trans (List.length_filter_le _ _) ?_
        rw [List.length_take]
        omega
      obtain ⟨d, hd, hx⟩ := DtAll.get hW hi
      rw [List.getElem?_map] at hd
      cases ee : (pairsOf pl ts)[i]? with
      | none => rw [ee] at hd; cases hd
      | some x =>
        rw [ee] at hd
        have ed : d = triD x := (Option.some.inj hd).symm
        subst ed
        obtain ⟨u2, rfl, hu2⟩ := dt_tri hx
        have et : (pairsOf pl ts).take (i + 1) = (pairsOf pl ts).take i ++ [x] := by
          rw [List.take_add_one, ee]
          rfl
        rw [et, List.filter_append, List.map_append]
        refine ⟨u2, _, rfl, SqT.of (sm _ _ hu2), rfl, _, _, rfl, _, _, rfl, _, _, rfl, rfl, rfl, _, rfl, _, rfl, rfl, _, rfl, ?_⟩
        refine ite2 (fun z => ?_) (fun z => ?_)
        · have z : x.1 = top.1 := V.int.inj (of_decide_eq_true z)
          refine ⟨_, rfl, _, rfl, (by show 2 ≤ sizeLine; decide), fun e ne => ?_⟩
          have hC4 : (upd H' e (.tup [.str (S x.2.1), .str (S x.2.2)])) C = some (.lst us) := by
            rw [upd_ne (ne_of_none hC ne)]
            exact hC
          have tk : TK (upd H' e (.tup [.str (S x.2.1), .str (S x.2.2)])) (upd (upd H' e (.tup [.str (S x.2.1), .str (S x.2.2)])) C (.lst (us ++ [.ref e]))) := TK.mut hC4
          refine ⟨us, hC4, szM (by omega), us ++ [.ref e], same_put (same_new sm ne) nC, upd_same, ?_⟩
          rw [List.filter_cons, if_pos (by simp [z])]
          exact DtAll.app (DtAll.keep ((TK.new ne).trans tk) hU) (.cons (.tup (tk.tup _ _ upd_same) (.cons (.str _) (.cons (.str _) .nil))) .nil)
        · have z : x.1 ≠ top.1 := fun y => z (by rw [y]; exact decide_eq_true rfl)
          refine ⟨us, sm, hC, ?_⟩
          rw [List.filter_cons, if_neg (by simp [z]), List.filter_nil, List.map_nil, List.append_nil]
          exact hU
    · obtain ⟨us, sm, hC, hU⟩ := hP
      rw [wl, List.take_length, hf] at hU
      refine .inl ⟨C, us, rfl, SqL.of hC, fun q1 nq1 => ?_⟩
      exact q _ _ (same_new ((S1.trans S2).trans sm) nq1) (.tup upd_same (DtAll.keep (TK.new nq1) hU))
end
end Far

namespace Far
open PySem PySem.Spec PyProof.Rows L2
open C8 (pss_cut tCut)
open SX (S)
def spLaw (K : PySem.W.Frag) : Sp := fun vs H Q _ => ∃ (a : Addr) (ns : List Int), vs = [.ref a] ∧ SqL K H a (ns.map V.int) ∧ ns.length ≤ 63 ∧ ∀ H', Q (.bl true) H'
theorem SqL.same {K : PySem.W.Frag} {H H' : Hp} {a : Addr} {xs : List V} (h : SqL K H a xs) (s : Same H H') : SqL K H' a xs := by
  rcases h with (h | ⟨o, h⟩) | h
  · exact .inl (.inl (s _ _ h))
  · exact .inl (.inr ⟨o, s _ _ h⟩)
  · exact .inr h
theorem fine_one : Fine [[97]] [] := ⟨⟨[[97]], [], .one _, .refl _, .refl _⟩, fun l hl => by rw [List.mem_singleton.mp hl]; exact ⟨by decide, by decide, by decide⟩, by decide⟩
theorem fine_ba {k : Int} (h1 : 1 ≤ k) (h2 : k ≤ 1000000) : Fine [[98], [97]] [([97], [98], k)] := by
  refine ⟨⟨[[97], [98]], [([97], [98], k)], ?_, .swap _ _ _, .refl _⟩, fun l hl => ?_, by decide⟩
  · exact Grown.leaf (os := [[97]]) (es := []) (a := [97]) (b := [98]) (k := k) (.one _) (by decide) (by decide) (.inl rfl) h1 h2
  · rcases List.mem_cons.mp hl with z | z
    · rw [z]
      exact ⟨by decide, by decide, by decide⟩
    · rw [List.mem_singleton.mp z]
      exact ⟨by decide, by decide, by decide⟩
theorem fine_ab {k : Int} (h1 : 1 ≤ k) (h2 : k ≤ 1000000) : Fine [[97], [98]] [([98], [97], k)] := by
  refine ⟨⟨[[97], [98]], [([98], [97], k)], ?_, .refl _, .refl _⟩, fun l hl => ?_, by decide⟩
  · exact Grown.leaf (os := [[97]]) (es := []) (a := [97]) (b := [98]) (k := k) (.one _) (by decide) (by decide) (.inr rfl) h1 h2
  · rcases List.mem_cons.mp hl with z | z
    · rw [z]
      exact ⟨by decide, by decide, by decide⟩
    · rw [List.mem_singleton.mp z]
      exact ⟨by decide, by decide, by decide⟩
theorem d_one : dist [] [97] [97] = 0 := (fine_one.tree.dist_self _).1
theorem d_ba {k : Int} (h1 : 1 ≤ k) (h2 : k ≤ 1000000) : dist [([97], [98], k)] [98] [97] = k ∧ dist [([97], [98], k)] [97] [98] = k ∧ dist [([97], [98], k)] [97] [97] = 0 ∧ dist [([97], [98], k)] [98] [98] = 0 := by
  have F := (fine_ba h1 h2).tree
  have w1 : Way [([97], [98], k)] ([98] : Nm) [97] ([[98]] ++ [[97]]) (0 + k) := .snoc .nil (.inr (by simp)) (by decide)
  have w2 : Way [([97], [98], k)] ([97] : Nm) [98] ([[97]] ++ [[98]]) (0 + k) := .snoc .nil (.inl (by simp)) (by decide)
  exact ⟨by rw [(F.is_way w1).2]; omega, by rw [(F.is_way w2).2]; omega, (F.dist_self _).1, (F.dist_self _).1⟩
theorem d_ab {k : Int} (h1 : 1 ≤ k) (h2 : k ≤ 1000000) : dist [([98], [97], k)] [98] [97] = k ∧ dist [([98], [97], k)] [97] [98] = k := by
  have F := (fine_ab h1 h2).tree
  have w1 : Way [([98], [97], k)] ([98] : Nm) [97] ([[98]] ++ [[97]]) (0 + k) := .snoc .nil (.inl (by simp)) (by decide)
  have w2 : Way [([98], [97], k)] ([97] : Nm) [98] ([[97]] ++ [[98]]) (0 + k) := .snoc .nil (.inr (by simp)) (by decide)
  exact ⟨by rw [(F.is_way w1).2]; omega, by rw [(F.is_way w2).2]; omega⟩
end Far

namespace Far
open PySem PySem.Spec PyProof.Rows L2
section
variable {X : Cx}
theorem countU {x : V} : ∀ {ys : List V} {us : List Value}, Vals ys us → ys.all flatV = true → us.countP (eqU x) = ys.countP (fun y => eqV y x)
  | _, _, .nil, _ => rfl
  | y :: ys, u :: us, .cons r t, f => by
    rw [List.all_cons, Bool.and_eq_true] at f
    rw [List.countP_cons, List.countP_cons, eqU_of r f.1, countU t f.2]
/-- list.count of a flat value in a list of flat values -/
def rCountV (K : PySem.W.Frag) : V → List V → Hp → VK → Prop := fun x xs H Q => ∃ (p : Addr) (ys : List V) (y : V), x = .ref p ∧ xs = [y] ∧ SqL K H p ys ∧ flatV y = true ∧ ys.all flatV = true ∧ Q (.int (ys.countP (fun z => eqV z y) : Nat)) H
theorem mt_countV {K : PySem.W.Frag} (eK : X.K = K := by rfl) : MtR X "list.count" (rCountV K) := by
  subst eK
  intro pins s σ H x xs v us Q I rx rxs h
  obtain ⟨p, ys, y, rfl, rfl, hs, fy, fys, q⟩ := h
  cases rx
  obtain ⟨u, rfl, ru⟩ := rxs.one
  obtain ⟨its, rv, ⟨⟨cl, di, da, so⟩, n, ho, hc, hdn, hd⟩, hl⟩ := I.list hs
  simp only at hc hd
  subst hc hd
  refine call_meets PySem.F.slot_list_count ⟨_, ho, rfl⟩ PySem.F.entry_list_count (PySem.F.args_list_count_2 _ _) (SeqAt.list_countAt p its.toArray n di so u (eqU y)) ⟨ho, fun z hz => mem_eqAt ru fy rv fys z (by simpa using hz), ?_⟩
  refine ⟨.int (ys.countP (fun z => eqV z y) : Nat), H, I.tok _, ⟨s.toks, ?_⟩, q⟩
  have e : its.toArray.toList.countP (eqU y) = ys.countP (fun z => eqV z y) := countU rv fys
  rw [e]

end
end Far

namespace Far
open PySem PySem.Spec PyProof.Rows L2
/-! ### a lambda of one parameter, as the key of sorted -/
section
variable {prog : Program} {w : World} {A : Around} {E : Value → Shared → Prop} {s : Shared}
/-- v is a tuple whose first item is the whole number i -/
def Fst (h : Heap) (v : Value) (i : Int) : Prop := ∃ (t : Addr) (its : List Value) (tk : Tok), v = .ref t ∧ IsTup h t its.toArray ∧ its[0]? = some (.int i tk)
theorem Fst.keep {h h' : Heap} {v : Value} {i : Int} (f : Fst h v i) (k : ∀ b o, h.get? b = some o → h'.get? b = some o) : Fst h' v i := by
  obtain ⟨t, its, tk, e, ⟨o, ho, r⟩, hi⟩ := f
  exact ⟨t, its, tk, e, ⟨o, k _ _ ho, r⟩, hi⟩
/-- what a body gives at a tuple that begins with i -/
def KeyBody (prog : Program) (w : World) (x : Str) (body : Expr) (g : Int → Int) : Prop :=
  ∀ (A : Around) (env : Env) (s : Shared) (m : Str → Option Value) (v : Value) (i : Int) (Q : Value → Shared → Prop) (E : Value → Shared → Prop), env.scope.kind = .function → env.kindOf x = some .local → s.heap.Ns env.locals m → m x = some v → Fst s.heap v i →
    (∀ t tk, Q (.int (g i) t) { s with toks := tk }) → wpAny (model prog w) A (eval body env) Q E s
theorem body_fst {x : Str} {p1 p2 p3 : Pos} {j : Nat} (hd : (x == ("__debug__" : Str)) = false := by decide) (hs : PlainIx (.Constant (.int 0) j p2) := by exact fun _ _ => rfl) :
    KeyBody prog w x (.Subscript (.Name x p1) (.Constant (.int 0) j p2) p3) id := by
  intro A env s m v i Q E hk hl hn hm f h
  obtain ⟨t, its, tk, rfl, pl, hi⟩ := f
  refine Subscript_ (wpAny_Name (wpAny_loadName_local hk hl hn hm ?_) hd)
  refine wpAny_Constant_int ?_
  have hlt : 0 < its.length := (List.getElem?_eq_some_iff.mp hi).1
  refine subscriptTail_builtinR (x := .int i tk) (show IsTup _ t its.toArray from pl).typeIs slot_tuple_getitem.lookup
    (getItem_tuple (j := 0) (Q := fun r s' => r = Value.int i tk ∧ Q r s') (show IsTup _ t its.toArray from pl) (by decide) (by decide) ?_ (by simpa using hi) ⟨rfl, h _ _⟩) (hs _ _)
  exact seqIndex_of (by decide) (by rw [List.size_toArray]; omega)
theorem body_neg {x : Str} {p1 p2 p3 p4 : Pos} {j : Nat} (hd : (x == ("__debug__" : Str)) = false := by decide) (hs : PlainIx (.Constant (.int 0) j p2) := by exact fun _ _ => rfl) :
    KeyBody prog w x (.UnaryOp .USub (.Subscript (.Name x p1) (.Constant (.int 0) j p2) p3) p4) (fun i => -i) := by
  intro A env s m v i Q E hk hl hn hm f h
  refine UnaryOp_ (body_fst hd hs A env s m v i _ E hk hl hn hm f fun t tk => ?_)
  exact neg_int (h _ _)
/-- the lambda's scope: its one parameter is its one name -/
structure LamP (x : Str) (sc : Scope) : Prop where
  kind : sc.kind = .function
  co : sc.isCoroutine = false
  gen : sc.isGenerator = false
  cell : ∀ y ∈ sc.names, y.2 ≠ .cell
  free : ∀ y ∈ sc.names, y.2 ≠ .free
  loc : sc.names.lookup x = some .local
theorem lam_turn {f c' : Addr} {q x : Str} {params : Arguments} {body : Expr} {scope : Scope} {cl : List (Str × Addr)} {pm ctv v : Value} {g : Int → Int} {i : Int} (hroom : A.depth < recursionLimit)
    (ho : s.heap.get? f = some (PySem.W.kla_obj "<lambda>" q params body scope cl pm c' ctv)) (hcd : s.heap.CodeRec (.ref c') q)
    (hbind : bindArgs (PySem.W.kla_fn "<lambda>" q params body scope cl pm (.ref c') ctv) ⟨[v], []⟩ = pure [(x, v)]) (L : LamP x scope) (lim : s.heap.NoLimit) (B : KeyBody prog w x body g) (hf : Fst s.heap v i) :
    wpAny (model prog w) A (call (.ref f) [v]) (PySem.W.KeyPure (.int (g i)) s) (fun _ _ => False) s := by
  have rc : codeAny (model prog w) A (.call (.ref f) ⟨[v], []⟩) (fun r s' => ∃ u, r = .ok (.ret u) ∧ PySem.W.KeyPure (.int (g i)) s u s') s := by
    refine PySem.W.kla_callFunE hroom ho rfl L.co L.gen rfl hcd ?_
    rw [hbind]
    refine wpAny_pure (wpAny_newFunctionEnv L.cell (fun y hy => by rcases List.mem_singleton.mp hy with rfl; exact L.loc) (fun h₁ hns hsb => ⟨lim.fresh _ hsb, ?_⟩) L.kind)
    have kp : ∀ b o, s.heap.get? b = some o → h₁.get? b = some o := fun b o e => hsb.extBut b o (Nat.ne_of_lt (Heap.lt_size e)) (Heap.get?_push_of_some _ e)
    refine PySem.W.kla_codeExpr (B _ _ _ _ v i _ _ L.kind L.loc hns (by simp) (hf.keep kp) fun t tk => ?_)
    exact ⟨_, rfl, _, _, rfl, kp, .int _ _⟩
  refine wpAny_call (codeAny_mono rc fun r s' hq => ?_)
  obtain ⟨u, rfl, hq⟩ := hq
  exact hq
end
open LamX in
/-- what a built-in with key= asks of the state, the lambda made -/
def CallRL (X : Cx) (id : String) (q : Str) (params : Arguments) (body : Expr) (scope : Scope) (r : List V → Hp → VK → Prop) : Prop :=
  ∀ (pins : List (Addr × Obj)) (s : Shared) (σ : L2.St) (H : Hp) (xs : List V) (us : List Value) (f c' : Addr) (cl : List (Str × Addr)) (pm ctv : Value) (Q : VK), Inv X pins σ H s → Vals xs us → H c' = some (CodeO c' q) →
    s.heap.get? f = some (PySem.W.kla_obj "<lambda>" q params body scope cl pm c' ctv) → r xs H Q → wpAny (model X.prog X.w) X.A (call (.builtin id) us [(Str.ofString "key", .ref f)]) (EP X pins σ Q) X.xe s
open LamX in
def tLamR (T : List (Addr × Str)) (r : List V → Hp → VK → Prop) (t : TA) : TE := fun σ H Q => t σ H fun vs H1 => Tabs T H1 ∧ ∀ H2, ExtN H1 H2 → Tabs T H2 → r vs H2 Q
section
open LamX
variable {X : Cx} {x : Str} {p pos lpos kpos : Pos} {e : Expr} {es : List Expr} {t : TA} {id : String} {r : List V → Hp → VK → Prop} {params : Arguments} {body : Expr} {scope : Scope} {T : List (Addr × Str)} {c P : Addr}
theorem pe_callL (TB : TabB X.base X.mg c P) (hcode : X.env.code = .ref c) (hmT : (P, X.env.qual ++ "<lambda>") ∈ T) (hu : ∀ p ∈ T, p.1 = P → p.2 = X.env.qual ++ "<lambda>") (hc : CallRL X id (X.env.qual ++ "<lambda>") params body scope r)
    (hg : Gl X x) (hm : X.mg x = none) (hv : bootBuiltins x = some (.builtin id)) (ha : PA X (e :: es) t) (hdef : defaultsOf params X.env = ([], [])) (hfree : ∀ y ∈ scope.names, y.2 ≠ .free)
    (hn : x ≠ "__name__" := by decide) (hdb : (x == ("__debug__" : Str)) = false := by decide)
    (he : backTo pos (starEach (e :: es) X.env) = (false, eval e X.env) :: backTo pos (starEach es X.env) := by rfl) (hpl : (backTo pos (starEach (e :: es) X.env)).any (·.1) = false := by rfl) :
    PE X (.Call (.Name x p) (e :: es) [⟨some "key", .Lambda params body scope lpos, kpos⟩] pos) (tLamR T r t) := by
  refine ⟨fun pins s σ H Q I h => ?_⟩
  refine wpAny_Call_Name_kw (ld_blt I hg hm hv ?_ hn hdb)
  refine PyProof.Rows.callWith_kw (thn (ha.run pos pins s σ H _ I h) fun us s1 ⟨vs, H1, I1, r1, hT, q1⟩ => ?_) he hpl rfl rfl
  show wpAny _ _ (evalAll [(do let v ← eval (.Lambda params body scope lpos) X.env; standAt pos; pure v)]) _ _ s1
  refine wpAny_evalAll_cons (wpAny_bind (lam_make2 I1 TB hcode hmT hu hT hdef (fun y hy z => absurd z (hfree y hy)) fun f c' pm ctv H2 s2 I2 eN T2 hf hfn hfr hco => ?_))
  refine wpAny_bind (wpAny_standAt (wpAny_pure (wpAny_evalAll_nil ?_)))
  exact hc pins s2 σ H2 vs us f c' _ pm ctv Q I2 r1 hco hf (q1 H2 eN T2)
def rSortKey (K : PySem.W.Frag) (g : Int → Int) : List V → Hp → VK → Prop := fun vs H Q => ∃ (a : Addr) (xs : List V) (k : V → Int), vs = [V.ref a] ∧ SqL K H a xs ∧ (∀ y ∈ xs, ∃ t zs, y = V.ref t ∧ H t = some (.tup (.int (k y) :: zs))) ∧
  ∀ p, H p = none → Q (.ref p) (upd H p (.lst (xs.mergeSort fun y z => decide (g (k y) ≤ g (k z)))))
theorem each_refl {α : Type} : ∀ l : List α, PySem.W.EachIs (fun u x => u = x) l l
  | [] => .nil
  | _ :: l => .cons rfl (each_refl l)
theorem each_eq {α : Type} {l m : List α} (h : PySem.W.EachIs (fun u x => u = x) l m) : l = m := by
  induction h with
  | nil => rfl
  | cons e _ ih => rw [e, ih]
theorem cr_sortedLam {q y : Str} {g : Int → Int} (hr : Room 1 X.A) (L : LamP y scope) (B : KeyBody X.prog X.w y body g)
    (hbind : ∀ (cl : List (Str × Addr)) (pm ctv v : Value) (c' : Addr), bindArgs (PySem.W.kla_fn "<lambda>" q params body scope cl pm (.ref c') ctv) ⟨[v], []⟩ = pure [(y, v)]) :
    CallRL X "sorted" q params body scope (rSortKey X.K g) := by
  intro pins s σ H vs us f c' cl pm ctv Q I r hco hf h
  obtain ⟨a, xs, k, rfl, hs, hx, q⟩ := h
  obtain ⟨its, rv, hl, hz⟩ := I.list hs
  obtain rfl := Vals.ref1 r
  obtain ⟨e1, e2⟩ := refs_back rv fun x m => by
    obtain ⟨t, _, e, _⟩ := hx x m
    exact ⟨t, e⟩
  have hlen : its.length ≤ sizeLine := by rw [← rv.length]; exact hz
  obtain ⟨⟨oc, cvs, ct, hoc, hdc, hvc⟩, _, _⟩ := I.hok c' _ hco
  have fst : ∀ v ∈ its, Fst s.heap v (k (backV v)) := fun v hv => by
    obtain ⟨t, rfl⟩ := e2 v hv
    have hm : V.ref t ∈ xs := by rw [e1]; exact List.mem_map.mpr ⟨_, hv, rfl⟩
    obtain ⟨t', zs, e, ht⟩ := hx _ hm
    cases e
    obtain ⟨_, its2, r2, ht2⟩ := I.hok _ _ ht
    cases r2 with
    | cons r0 r1 =>
      obtain ⟨tk, rfl⟩ := r0
      exact ⟨t, _, tk, rfl, ht2, rfl⟩
  refine PySem.W.sorted_key_data (β := Value) (bs := its) (R := fun u x => u = x) (b := false) (fun u => PyData.int (g (k (backV u)))) hl.isList (each_refl its) ?_ ?_ hlen (fun x _ => ?_) (PyProof.Rows.ksk_s1 _ _) (fun _ => PyProof.Rows.ksk_l1 _ _) (fun x => PyProof.Rows.ksk_t1 _ _) (fun v x e hx h tk kp => ?_) fun out c h' tk kp hn hd hlo hE => ?_
  · intro d hd d' hd'
    obtain ⟨u, _, rfl⟩ := List.mem_map.mp hd
    obtain ⟨u', _, rfl⟩ := List.mem_map.mp hd'
    rfl
  · refine .inr fun d hd => ?_
    obtain ⟨u, _, rfl⟩ := List.mem_map.mp hd
    exact ⟨(by intro z; cases z), fun xs z => by cases z⟩
  · have := hr.un
    show X.A.units + 2 + 0 < cLine
    omega
  · subst e
    refine lam_turn (s := { s with heap := h, toks := tk }) ?_ (kp _ _ hf) ⟨c', oc, cvs, ct, rfl, kp _ _ hoc, hdc, hvc⟩ (hbind _ _ _ _ _) L (I.nolimit.keeps kp) B ((fst _ hx).keep kp)
    have := hr.dp
    show X.A.depth < _
    omega
  · have e3 : out = its.mergeSort (fun u u' => decide (g (k (backV u)) ≤ g (k (backV u')))) := by
      rw [each_eq hE]
      rw [PySem.W.dataLe_int (fun u : Value => g (k (backV u)))]
    have e4 : out.map backV = xs.mergeSort fun y z => decide (g (k y) ≤ g (k z)) := by
      rw [e3, e1, List.map_mergeSort]
      intro a _ b _
      rfl
    have hr2 : ∀ u ∈ out, ∃ a, u = Value.ref a := fun u hu => by
      rw [e3] at hu
      exact e2 u (List.mem_mergeSort.mp hu)
    have I2 := I.laid (t' := tk) (o := .lst (out.map backV)) kp (Nat.le_succ _) ⟨by rw [List.length_map, hlo]; exact hlen, out, c, vals_back hr2, hd⟩
    rw [e4] at I2
    exact ⟨.ref _, _, I2, rfl, q _ (I.hok.fresh (Nat.le_succ _))⟩
end
end Far

namespace Far
open PySem PySem.Spec PyProof.Rows PyProof.V L2
theorem kv_vals17 : ∀ {kvs : List (Key × V)} {vs : List (Key × Value)}, KV kvs vs → Vals (kvs.map (·.2)) (vs.map (·.2))
  | [], [], .nil => .nil
  | _ :: _, _ :: _, .cons h t => .cons h.2 (kv_vals17 t)
/-- max(d.values()), the values whole numbers -/
def tMaxVals (te : TE) : TE := fun σ H Q => te σ H fun x H1 => ∃ (d : Addr) (kvs : List (Key × V)) (ns : List Int), x = .ref d ∧ H1 d = some (.dK kvs) ∧ kvs.map (·.2) = ns.map V.int ∧ 0 < ns.length ∧ ∀ m, m ∈ ns → (∀ y, y ∈ ns → y ≤ m) → Q (.int m) H1
theorem pe_maxVals {X : Cx} {e : Expr} {te : TE} {p pos apos cpos : Pos} (hc : X.calm = true) (he : PE X e te) (hg : Gl X "max") (hm : X.mg "max" = none) (hv : bootBuiltins "max" = some (.builtin "max"))
    (hbase : attributeBase e "values" X.env (eval e X.env) = eval e X.env := by rfl) (hline : (apos.endLine == cpos.line) = true := by rfl)
    (hs : starEach [.Call (.Attribute e "values" apos) [] [] cpos] X.env = (false, eval (.Call (.Attribute e "values" apos) [] [] cpos) X.env) :: starEach [] X.env := by rfl) :
    PE X (.Call (.Name "max" p) [.Call (.Attribute e "values" apos) [] [] cpos] [] pos) (tMaxVals te) := by
  refine ⟨fun pins s σ H Q I hq => ?_⟩
  refine wpAny_Call_Name_kw (ld_blt I hg hm hv ?_)
  refine PyProof.Rows.callWith_builtin1 ?_ hs rfl
  rw [hs]
  show wpAny _ _ (spliced ((false, eval (.Call (.Attribute e "values" apos) [] [] cpos) X.env) :: backTo pos (starEach [] X.env))) _ _ s
  refine Calls.spliced_cons ?_
  refine wpAny_Call_method (T := "dict") (id := "dict.values") hbase rfl hline F.plainAttrs_dict F.slot_dict_values F.type_dict_values (thn (he.run pins s σ H _ I hq) fun u s1 ⟨x, H1, I1, rx, d, kvs, ns, ex, hd, en, n0, q⟩ => ?_)
  subst ex
  obtain rfl : u = Value.ref d := rx
  obtain ⟨hz, hs0, vs, kv, hdo⟩ := I1.hok d _ hd
  obtain ⟨ep, hat⟩ := hdo.dictAt
  have lk : kvs.length = vs.length := Paired.length kv
  have I2 : Inv X pins σ H1 { s1 with heap := s1.heap.push { cls := .type "dict_values", data := .fields #[.ref d] } } := I1.kept (t' := s1.toks) fun b ob q => Heap.get?_push_of_some _ q
  refine ⟨hdo.typeIs, hdo.mapOf.noDict, ?_⟩
  show wpAny _ _ (callWith cpos (.builtin "dict.values") [.ref d] [] []) _ X.xe s1
  refine method_meetsIn F.slot_dict_values F.entry_dict_values rfl (PySem.evalArgs_none ⟨rfl, hdo.typeIs, F.args_dict_values_1 _, _, meets_dict_values (mixKind X.prog X.w) d hs0, ⟨vs, hdo⟩, ?_⟩)
  refine Calls.spliced_nil ?_
  have rv := kv_vals17 kv
  rw [en] at rv
  have hi := rv.ints
  obtain ⟨xs, exs⟩ := hi.allInts.items
  have hn : numsOf (intItems xs).toList = ns := by rw [← exs]; exact hi.numsOf
  rw [nums_intItems] at hn
  subst hn
  have hz2 : 0 < xs.size := by simpa using n0
  have vx : vs.length = xs.size := by
    have := congrArg Array.size exs
    simpa [intItems] using this
  have hdl : d < s1.heap.objs.size := hat.lt_size
  refine call_max_walk (wpAny_pyIter_values (v := s1.heap.objs.size) (d := d) (kvs := vs) (ep := ep) ⟨_, Heap.get?_push_size _ rfl, rfl, rfl⟩ (hat.push _) ?_)
  have hI2 := I2.ok.hd hc
  have hat2 := hat.push { cls := .type "dict_values", data := .fields #[.ref d] }
  have dI : d ≠ (s1.heap.push { cls := .type "dict_values", data := .fields #[.ref d] }).objs.size := by
    rw [Heap.size_push]
    exact Nat.ne_of_lt (Nat.lt_succ_of_lt hdl)
  refine ⟨_, _, _, _, _, _, fun i j => decide (numAt xs i > numAt xs j), rfl, Walks.dictValues (A := X.A.in1) (I1.ok.hd hc) _ d dI vs ep, ⟨⟨_, Heap.get?_push_size _ rfl, rfl, rfl⟩, hat2.push _⟩, fun b hb => ?_, by omega, CmpOf.ints_gt (numAt xs) (fun i v hv => ?_), fun v h' tk hP hk => ?_⟩
  · show b < ((s1.heap.push _).push _).objs.size
    rw [Heap.size_push]
    rcases List.mem_cons.mp hb with rfl | hb
    · exact Nat.lt_succ_self _
    · rw [List.mem_singleton.mp hb, Heap.size_push]
      exact Nat.lt_succ_of_lt (Nat.lt_succ_of_lt hdl)
  · obtain ⟨k, hk⟩ := hv
    refine intItems_at (v := v) ?_
    rw [← exs, List.getElem?_toArray, List.getElem?_map, hk]
    rfl
  · obtain ⟨k, hk2⟩ := hP
    have e2 : (intItems xs)[argBest (fun i j => decide (numAt xs i > numAt xs j)) (vs.length - 1)]? = some v := by
      rw [← exs, List.getElem?_toArray, List.getElem?_map, hk2]
      rfl
    obtain ⟨t, rfl⟩ := intItems_at e2
    rw [vx]
    obtain ⟨h1, h2⟩ := argBest_gt (numAt xs) (xs.size - 1)
    refine ⟨.int _, H1, I2.kept (t' := tk) ?_, ⟨_, rfl⟩, q _ ?_ fun a ha => ?_⟩
    · exact fun b o' e => hk b o' (fun hb => absurd (Heap.lt_size e) ((List.mem_singleton.mp hb) ▸ Nat.lt_irrefl _)) (Heap.get?_push_of_some _ e)
    · rw [numAt_eq]
      exact PySem.getD_mem (by rw [List.length_map, Array.length_toList]; omega)
    · obtain ⟨j, hj, rfl⟩ := mem_getD ha
      rw [List.length_map, Array.length_toList] at hj
      rw [← numAt_eq]
      exact h2 j (by omega)
end Far

namespace Far
open PySem PySem.Spec PyProof.Rows L2
/-- three tuples as they stand at each turn, the items in new triples -/
def ItzT3 (K : PySem.W.Frag) (a b c : Addr) : It :=
  ⟨fun i H => ∃ (xs ys zs : List V) (x y u : V), SqT K H a xs ∧ SqT K H b ys ∧ SqT K H c zs ∧ xs[i]? = some x ∧ ys[i]? = some y ∧ zs[i]? = some u,
    fun i H v H' => ∃ T x y u, v = .ref T ∧ H T = none ∧ H' = upd H T (.tup [x, y, u]) ∧ (∀ xs, SqT K H a xs → xs[i]? = some x) ∧ (∀ ys, SqT K H b ys → ys[i]? = some y) ∧ ∀ zs, SqT K H c zs → zs[i]? = some u,
    fun i H => ∃ xs ys zs : List V, SqT K H a xs ∧ SqT K H b ys ∧ SqT K H c zs ∧ xs.length = i ∧ ys.length = i ∧ zs.length = i⟩
def St3 (a b c z TI TO i1 i2 i3 : Addr) (i : Nat) (h : Heap) : Prop :=
  IsZip h z TI TO .none ∧ IsTupOf3 h TI (.ref i1) (.ref i2) (.ref i3) ∧ (∃ a1 a2 a3, IsTupOf3 h TO a1 a2 a3) ∧ h.IsTupleIter i1 a i ∧ h.IsTupleIter i2 b i ∧ h.IsTupleIter i3 c i
theorem turn_zip3 {P : Program} {w : World} {K : PySem.W.Frag} {elts : List Expr} {kk : Nat} {tpos : Pos} {a b c z TI TO i1 i2 i3 : Addr} (D : ZipSep3 z TI TO i1 i2 i3 [i1, a] [i2, b] [i3, c]) (na : a ≠ i1) (nb : b ≠ i2) (nc : c ≠ i3) :
    Turn P w K (.Tuple elts kk tpos) (ItzT3 K a b c) [z, TI, TO, i1, i2, i3] z (St3 a b c z TI TO i1 i2 i3) where
  mem := by simp
  obj := fun i h st e hc => by
    obtain ⟨hz, hTI, ⟨x, y, u, hTO⟩, ⟨o1, e1, _, d1⟩, ⟨o2, e2, _, d2⟩, ⟨o3, e3, _, d3⟩⟩ := st
    have e' : e = z ∨ e = TI ∨ e = TO ∨ e = i1 ∨ e = i2 ∨ e = i3 := by simpa using hc
    rcases e' with q | q | q | q | q | q
    · rw [q]; exact ⟨_, hz, fun v q => nomatch q⟩
    · rw [q]; exact ⟨_, hTI, fun v q => nomatch q⟩
    · rw [q]; exact ⟨_, hTO, fun v q => nomatch q⟩
    · rw [q]; exact ⟨o1, e1, fun v q => by rw [d1] at q; cases q⟩
    · rw [q]; exact ⟨o2, e2, fun v q => by rw [d2] at q; cases q⟩
    · rw [q]; exact ⟨o3, e3, fun v q => by rw [d3] at q; cases q⟩
  keep := fun i h h' st k => by
    obtain ⟨hz, hTI, ⟨x, y, u, hTO⟩, h1, h2, h3⟩ := st
    exact ⟨k z (by simp) _ hz, k TI (by simp) _ hTI, ⟨x, y, u, k TO (by simp) _ hTO⟩, h1.at fun o q => k i1 (by simp) o q, h2.at fun o q => k i2 (by simp) o q, h3.at fun o q => k i3 (by simp) o q⟩
  item := by
    intro X hP hw hK hc i pins s σ H E I hf st hg
    subst hP hw hK
    obtain ⟨hz, hTI, ⟨x0, y0, u0, hTO⟩, h1, h2, h3⟩ := st
    obtain ⟨xs, ys, zs, x, y, u, hqx, hqy, hqz, hx, hy, hu⟩ := hg
    obtain ⟨its, rv, p, _⟩ := I.tuple hqx
    obtain ⟨its2, rv2, p2, _⟩ := I.tuple hqy
    obtain ⟨its3, rv3, p3, _⟩ := I.tuple hqz
    obtain ⟨w1, hw1, rw1⟩ := rv.get hx
    obtain ⟨w2, hw2, rw2⟩ := rv2.get hy
    obtain ⟨w3, hw3, rw3⟩ := rv3.get hu
    have hd := I.ok.hd hc
    have l1 := (List.getElem?_eq_some_iff.mp hw1).1
    have l2 := (List.getElem?_eq_some_iff.mp hw2).1
    have l3 := (List.getElem?_eq_some_iff.mp hw3).1
    have WT := WalksT.zipD3 (prog := X.prog) (w := X.w) (A := X.A) D (Draws.tuple (A := X.A.in1) hd i1 a na its.toArray) (Draws.tuple (A := X.A.in1) hd i2 b nb its2.toArray) (Draws.tuple (A := X.A.in1) hd i3 c nc its3.toArray)
    have lts : ∀ e, e ∈ [z, TI, TO, i1, i2, i3] → e < s.heap.objs.size := fun e hc => by
      have e' : e = z ∨ e = TI ∨ e = TO ∨ e = i1 ∨ e = i2 ∨ e = i3 := by simpa using hc
      rcases e' with q | q | q | q | q | q
      · rw [q]; exact Heap.lt_size hz
      · rw [q]; exact Heap.lt_size hTI
      · rw [q]; exact Heap.lt_size hTO
      · rw [q]; obtain ⟨_, e1, _⟩ := h1; exact Heap.lt_size e1
      · rw [q]; obtain ⟨_, e1, _⟩ := h2; exact Heap.lt_size e1
      · rw [q]; obtain ⟨_, e1, _⟩ := h3; exact Heap.lt_size e1
    have sub : ∀ e, e ∉ [z, TI, TO, i1, i2, i3] → e ∉ [z, TO, i1, i2, i3] := fun e hb hm => hb (by
      have e' : e = z ∨ e = TO ∨ e = i1 ∨ e = i2 ∨ e = i3 := by simpa using hm
      rcases e' with q | q | q | q | q <;> rw [q] <;> simp)
    refine WT.item i s _ E (by simp; omega) ⟨hz, hTI, ⟨_, _, _, hTO⟩, ⟨h1, p⟩, ⟨h2, p2⟩, ⟨h3, p3⟩⟩ fun T vals h' tk hP hT hTup mid hk => ?_
    obtain ⟨x1, x2, x3, q1, q2, q3, rfl⟩ := hP
    have e1 : x1 = w1 := Option.some.inj (q1.symm.trans (by simpa using hw1))
    have e2 : x2 = w2 := Option.some.inj (q2.symm.trans (by simpa using hw2))
    have e3 : x3 = w3 := Option.some.inj (q3.symm.trans (by simpa using hw3))
    subst e1 e2 e3
    refine ⟨_, rfl, WT.go elts kk tpos i T _ _ E mid fun h'' st'' hk2 => ?_⟩
    have hT2 : h''.IsTuple T #[x1, x2, x3] := hTup.at fun o e => hk2 T o (WT.apart i T h' mid) e
    have new : ObjOk X.prog X.w (upd H T (.tup [x, y, u])) h'' T (.tup [x, y, u]) :=
      ⟨by show 3 ≤ sizeLine; decide, [x1, x2, x3], .cons rw1 (.cons rw2 (.cons rw3 .nil)), hT2⟩
    have I1 : Inv X pins σ (upd H T (.tup [x, y, u])) { s with heap := h'', toks := tk } :=
      I.turnedNew (t' := tk) (ch := [z, TI, TO, i1, i2, i3]) (fun e o hb q => hk2 e o (sub e hb) (hk e o (sub e hb) q)) hf hT new
    refine ⟨.ref T, _, I1, rfl, ⟨_, x, y, u, rfl, I.hok.fresh hT, rfl, fun l hl => by rw [I.tuple_inj hl hqx]; exact hx, fun l hl => by rw [I.tuple_inj hl hqy]; exact hy, fun l hl => by rw [I.tuple_inj hl hqz]; exact hu⟩, ⟨st''.1, st''.2.1, st''.2.2.1, st''.2.2.2.1.1, st''.2.2.2.2.1.1, st''.2.2.2.2.2.1⟩, fun e hem => ?_⟩
    rw [upd_ne (Nat.ne_of_lt (Nat.lt_of_lt_of_le (lts e hem) hT))]
    exact (hf e hem).1
  done := by
    intro X hP hw hK hc i pins s σ H E I hf st hg
    subst hP hw hK
    obtain ⟨hz, hTI, ⟨x0, y0, u0, hTO⟩, h1, h2, h3⟩ := st
    obtain ⟨xs, ys, zs, hqx, hqy, hqz, hx, hy, hu⟩ := hg
    obtain ⟨its, rv, p, _⟩ := I.tuple hqx
    obtain ⟨its2, rv2, p2, _⟩ := I.tuple hqy
    obtain ⟨its3, rv3, p3, _⟩ := I.tuple hqz
    have l1 := rv.length
    have l2 := rv2.length
    have l3 := rv3.length
    have hd := I.ok.hd hc
    have WT := WalksT.zipD3 (prog := X.prog) (w := X.w) (A := X.A) D (Draws.tuple (A := X.A.in1) hd i1 a na its.toArray) (Draws.tuple (A := X.A.in1) hd i2 b nb its2.toArray) (Draws.tuple (A := X.A.in1) hd i3 c nc its3.toArray)
    have en : min (min its.toArray.size its2.toArray.size) its3.toArray.size = i := by simp; omega
    rw [en] at WT
    have sub : ∀ e, e ∉ [z, TI, TO, i1, i2, i3] → e ∉ [z, TO, i1, i2, i3] := fun e hb hm => hb (by
      have e' : e = z ∨ e = TO ∨ e = i1 ∨ e = i2 ∨ e = i3 := by simpa using hm
      rcases e' with q | q | q | q | q <;> rw [q] <;> simp)
    refine WT.done s _ E ⟨hz, hTI, ⟨_, _, _, hTO⟩, ⟨h1, p⟩, ⟨h2, p2⟩, ⟨h3, p3⟩⟩ fun h' tk hk => ?_
    exact ⟨rfl, I.turnedL (t' := tk) (ch := [z, TI, TO, i1, i2, i3]) (fun e o hb q => hk e o (sub e hb) q) hf⟩
  self := fun A i s Q E st h => by
    exact wpAny_pyIter_zip st.1 h
def iZip3 (K : PySem.W.Frag) (ta : TA) : TI := fun σ H R => ta σ H fun vs H1 => ∃ a b c xs ys zs, vs = [.ref a, .ref b, .ref c] ∧ SqT K H1 a xs ∧ SqT K H1 b ys ∧ SqT K H1 c zs ∧ R (ItzT3 K a b c) H1
theorem pi_zip3 {X : Cx} {e e2 e3 : Expr} {ta : TA} {p pos tpos : Pos} {elts : List Expr} {kk : Nat} (hg : Gl X "zip") (hm : X.mg "zip" = none) (ha : PA X [e, e2, e3] ta)
    (hs : starEach [e, e2, e3] X.env = (false, eval e X.env) :: starEach [e2, e3] X.env := by rfl) (hpl : (backTo pos (starEach [e2, e3] X.env)).any (·.1) = false := by rfl) :
    PI X (.Tuple elts kk tpos) (.Call (.Name "zip" p) [e, e2, e3] [] pos) (iZip3 X.K ta) := by
  refine ⟨fun pins s σ H R I h => ?_⟩
  refine Call_ (ld_blt I hg hm PyProof.Rows.boot_zip (PyProof.Rows.callWith_type1 (thn (ha.run pos pins s σ H _ I h) fun us s1 ⟨vs, H1, I1, r1, q1⟩ => ?_) hs hpl))
  obtain ⟨a, b, c, xs, ys, zs, ex, hqx, hqy, hqz, q⟩ := q1
  subst ex
  cases r1 with
  | cons r rr =>
    cases rr with
    | cons r' rr =>
      cases rr with
      | cons r'' rr =>
        cases rr
        cases r
        cases r'
        cases r''
        have fresh6 : ∀ c, c ∈ [s1.heap.objs.size + 5, s1.heap.objs.size + 3, s1.heap.objs.size + 4, s1.heap.objs.size, s1.heap.objs.size + 1, s1.heap.objs.size + 2] → FpOk X pins H1 c := fun c hcm => by
          have e' : c = s1.heap.objs.size + 5 ∨ c = s1.heap.objs.size + 3 ∨ c = s1.heap.objs.size + 4 ∨ c = s1.heap.objs.size ∨ c = s1.heap.objs.size + 1 ∨ c = s1.heap.objs.size + 2 := by simpa using hcm
          have hle : s1.heap.objs.size ≤ c := by
            rcases e' with z | z | z | z | z | z
            · rw [z]; exact Nat.le_add_right _ _
            · rw [z]; exact Nat.le_add_right _ _
            · rw [z]; exact Nat.le_add_right _ _
            · rw [z]; exact Nat.le_refl _
            · rw [z]; exact Nat.le_add_right _ _
            · rw [z]; exact Nat.le_add_right _ _
          exact I1.fpOk hle (I1.hok.fresh hle)
        obtain ⟨its, rv, p1, _⟩ := I1.tuple hqx
        obtain ⟨its2, rv2, p2, _⟩ := I1.tuple hqy
        obtain ⟨its3, rv3, p3, _⟩ := I1.tuple hqz
        have la : a < s1.heap.objs.size := by
          obtain ⟨o, ho, _⟩ := id p1
          exact Heap.lt_size ho
        have lb : b < s1.heap.objs.size := by
          obtain ⟨o, ho, _⟩ := id p2
          exact Heap.lt_size ho
        have lc : c < s1.heap.objs.size := by
          obtain ⟨o, ho, _⟩ := id p3
          exact Heap.lt_size ho
        refine zip_begins3 (begins_tuple a its.toArray) (begins_tuple b its2.toArray) (begins_tuple c its3.toArray) p1 p2 p3 fun h' hz hTI hTO g1 g2 g3 hsz hk => wpAny_pyIter_zip hz ?_
        have I2 : Inv X pins σ H1 { s1 with heap := h' } := I1.kept (t' := s1.toks) hk
        exact ⟨s1.heap.objs.size + 5, [s1.heap.objs.size + 5, s1.heap.objs.size + 3, s1.heap.objs.size + 4, s1.heap.objs.size, s1.heap.objs.size + 1, s1.heap.objs.size + 2], _, _, H1, rfl, I2,
          turn_zip3 (zip_sep3 (N := s1.heap.objs.size) (fp1 := [a]) (fp2 := [b]) (fp3 := [c]) (fun e he => by rw [List.mem_singleton.mp he]; exact la) (fun e he => by rw [List.mem_singleton.mp he]; exact lb) (fun e he => by rw [List.mem_singleton.mp he]; exact lc)) (Nat.ne_of_lt la) (Nat.ne_of_lt (Nat.lt_succ_of_lt lb)) (Nat.ne_of_lt (Nat.lt_succ_of_lt (Nat.lt_succ_of_lt lc))),
          ⟨hz, hTI, ⟨_, _, _, hTO⟩, ⟨_, g1, rfl, rfl⟩, ⟨_, g2, rfl, rfl⟩, ⟨_, g3, rfl, rfl⟩⟩, fresh6, q⟩
/-- a loop over zip of three tuples of one length -/
theorem for_zip3 {K : PySem.W.Frag} {a b c : Addr} {xs ys zs : List V} {g : TG} {tb : TS} {D : Ends} {σ : L2.St} {H : Hp} (e1 : xs.length = ys.length) (e2 : xs.length = zs.length) (Pv : Nat → L2.St → Hp → Prop) (h0 : Pv 0 σ H) (hl : ∀ i σ H, Pv i σ H → SqT K H a xs ∧ SqT K H b ys ∧ SqT K H c zs)
    (hs : ∀ i x y u σ H T, xs[i]? = some x → ys[i]? = some y → zs[i]? = some u → Pv i σ H → H T = none → g (.ref T) σ (upd H T (.tup [x, y, u])) fun σ2 H2 => tb { D with nx := Pv (i + 1), ct := Pv (i + 1), bk := D.nx } σ2 H2) (hd : ∀ σ H, Pv xs.length σ H → D.nx σ H) :
    ∃ W : Nat → Nat → L2.St → Hp → Prop, (∃ m, W 0 m σ H) ∧ ∀ i m σ H, W i m σ H →
      ((ItzT3 K a b c).stop i H ∧ D.nx σ H) ∨ ((ItzT3 K a b c).go i H ∧ ∃ N : L2.St → Hp → Prop, (∀ σ' H', N σ' H' → ∃ m', m' < m ∧ W (i + 1) m' σ' H') ∧ ∀ x H', (ItzT3 K a b c).yld i H x H' → g x σ H' fun σ2 H2 => tb { D with nx := N, ct := N, bk := D.nx } σ2 H2) := by
  refine ⟨fun i m σ H => m = xs.length - i ∧ i ≤ xs.length ∧ Pv i σ H, ⟨xs.length, by simp, Nat.zero_le _, h0⟩, fun i m σ H ⟨em, hi, p⟩ => ?_⟩
  obtain ⟨q1, q2, q3⟩ := hl i σ H p
  by_cases lt : i < xs.length
  · have lt2 : i < ys.length := by omega
    have lt3 : i < zs.length := by omega
    refine .inr ⟨⟨xs, ys, zs, xs[i], ys[i], zs[i], q1, q2, q3, by simp [lt], by simp [lt2], by simp [lt3]⟩, Pv (i + 1), fun σ' H' p' => ⟨xs.length - (i + 1), by omega, rfl, lt, p'⟩, fun v H' ⟨T, x, y, u, ev, nT, eH, hx, hy, hu⟩ => ?_⟩
    rw [ev, eH]
    exact hs i x y u σ H T (hx xs q1) (hy ys q2) (hu zs q3) p nT
  · have e : i = xs.length := by omega
    rw [e] at p
    exact .inl ⟨⟨xs, ys, zs, q1, q2, q3, by omega, by omega, by omega⟩, hd σ H p⟩
end Far

namespace Far
open PySem PySem.Spec PyProof.Rows L2
open SX (S)
/-! ### sorted of a list whose items are data of one kind -/
theorem each_fst : ∀ {bs : List (V × PyData)} {us : List Value}, Vals (bs.map (·.1)) us → PySem.W.EachIs (fun u b => RelV b.1 u) us bs
  | [], [], .nil => .nil
  | _ :: _, _ :: _, .cons h t => .cons h (each_fst t)
theorem fst_each {us : List Value} {bs : List (V × PyData)} (h : PySem.W.EachIs (fun u b => RelV b.1 u) us bs) : Vals (bs.map (·.1)) us := by
  induction h with
  | nil => exact .nil
  | cons e _ ih => exact .cons e ih
def rSortedD (K : PySem.W.Frag) : List V → Hp → VK → Prop := fun vs H Q => ∃ (a : Addr) (bs : List (V × PyData)), vs = [V.ref a] ∧ SqL K H a (bs.map (·.1)) ∧ (∀ b ∈ bs, Dp K H b.1 b.2 ∧ b.2.depth ≤ 8) ∧ PySem.W.AllAlike (bs.map (·.2)) ∧ PySem.W.Sortable (bs.map (·.2)) ∧
  ∀ p, H p = none → Q (.ref p) (upd H p (.lst ((bs.mergeSort (PySem.W.dataLe false (·.2))).map (·.1))))
section
variable {X : Cx}
theorem each_dp {pins : List (Addr × Obj)} {σ : L2.St} {H : Hp} {s : Shared} (I : Inv X pins σ H s) : ∀ {bs : List (V × PyData)} {us : List Value}, (∀ b ∈ bs, Dp X.K H b.1 b.2 ∧ b.2.depth ≤ 8) → Vals (bs.map (·.1)) us → PySem.W.EachIs (fun u b => ∃ as, Reads s.heap u b.2 as) us bs
  | [], [], _, .nil => .nil
  | b :: _, _ :: _, hb, .cons h t => .cons (Dp.reads I _ _ _ (hb b List.mem_cons_self).1 h) (each_dp I (fun x hx => hb x (List.mem_cons_of_mem _ hx)) t)
theorem cr_sortedD (hr : Room 1 X.A) : CallR X (.builtin "sorted") (rSortedD X.K) := by
  intro pins s σ H vs us Q I r h
  obtain ⟨a, bs, rfl, hs, hb, hal, hk, q⟩ := h
  obtain ⟨its, rv, hl, hz⟩ := I.list hs
  rw [Vals.ref1 r]
  rw [List.length_map] at hz
  refine PySem.W.sorted_data (R := fun u b => RelV b.1 u) (bs := bs) (enc := (·.2)) hl.isList (each_fst rv) (each_dp I hb rv) hal hk hz (fun b hm => ?_) fun out ho he => ?_
  · have := hr.un
    have := (hb b hm).2
    omega
  · obtain ⟨ep, he'⟩ := PyProof.Rows.sortedAll_at s.heap its out.toArray
    exact ⟨.ref _, upd H (s.heap.objs.size + 1) (.lst ((bs.mergeSort (PySem.W.dataLe false (·.2))).map (·.1))), I.laid (t' := s.toks) (fun _ _ => PyProof.Rows.sortedAll_old) (Nat.le_succ _) ⟨by rw [List.length_map, List.length_mergeSort]; exact hz, out, ep, fst_each he, he'⟩, rfl, q _ (I.hok.fresh (Nat.le_succ _))⟩
theorem cr_sortedDL {K : PySem.W.Frag} (hr : Room 1 X.A) (eK : X.K = K := by rfl) : CallR X (.builtin "sorted") (rSortedD K) := by subst eK; exact cr_sortedD hr
theorem op_eqDL {K : PySem.W.Frag} (hu : X.A.units + 64 < cLine) (eK : X.K = K := by rfl) : OpR X (compareOp .Eq) (rEqD K) := by subst eK; exact op_eqD hu
end
theorem bt_sorted : bootBuiltins ("sorted" : Str) = some (.builtin "sorted") := by decide +kernel
theorem ms_two {α : Type} (le : α → α → Bool) (x y : α) : [x, y].mergeSort le = if le x y = true then [x, y] else [y, x] := by
  by_cases c : le x y = true
  · simp [List.mergeSort, List.MergeSort.Internal.splitInTwo, List.merge, c]
  · simp [List.mergeSort, List.MergeSort.Internal.splitInTwo, List.merge, c]
/-- two names in their order -/
def leN (a b : Nm) : Bool := decide ((S a).cps.toList ≤ (S b).cps.toList)
def two (a b : Nm) : List Nm := if leN a b = true then [a, b] else [b, a]
theorem leN_total (a b : Nm) : leN a b = true ∨ leN b a = true := by
  unfold leN
  rw [decide_eq_true_eq, decide_eq_true_eq]
  exact List.le_total _ _
theorem leN_anti {a b : Nm} (h1 : leN a b = true) (h2 : leN b a = true) : a = b := by
  unfold leN at h1 h2
  rw [decide_eq_true_eq] at h1 h2
  have e := List.le_antisymm h1 h2
  exact SX.S_inj (by
    show (S a) = S b
    have e2 : (S a).cps = (S b).cps := Array.toList_inj.mp e
    cases ha : S a with
    | mk x =>
      cases hb : S b with
      | mk y =>
        rw [ha, hb] at e2
        rw [show x = y from e2])
theorem two_eq {a b c d : Nm} : two a b = two c d ↔ (a, b) = (c, d) ∨ (a, b) = (d, c) := by
  unfold two
  rw [Prod.mk.injEq, Prod.mk.injEq]
  by_cases h1 : leN a b = true <;> by_cases h2 : leN c d = true
  · rw [if_pos h1, if_pos h2]
    simp only [List.cons.injEq, and_true]
    refine ⟨.inl, fun h => h.elim id fun ⟨e1, e2⟩ => ?_⟩
    subst e1 e2
    have := leN_anti h1 h2
    exact ⟨this, this.symm⟩
  · rw [if_pos h1, if_neg h2]
    simp only [List.cons.injEq, and_true]
    refine ⟨.inr, fun h => h.elim (fun ⟨e1, e2⟩ => ?_) id⟩
    subst e1 e2
    exact absurd h1 h2
  · rw [if_neg h1, if_pos h2]
    simp only [List.cons.injEq, and_true]
    refine ⟨fun ⟨e1, e2⟩ => .inr ⟨e2, e1⟩, fun h => h.elim (fun ⟨e1, e2⟩ => ?_) fun ⟨e1, e2⟩ => ⟨e2, e1⟩⟩
    subst e1 e2
    exact absurd h2 h1
  · rw [if_neg h1, if_neg h2]
    simp only [List.cons.injEq, and_true]
    refine ⟨fun ⟨e1, e2⟩ => .inl ⟨e2, e1⟩, fun h => h.elim (fun ⟨e1, e2⟩ => ⟨e2, e1⟩) fun ⟨e1, e2⟩ => ?_⟩
    subst e1 e2
    have := leN_total a b
    rcases this with h | h
    · exact absurd h h1
    · exact absurd h h2
/-- sorted([one, other]) of two texts -/
theorem srt_two (a b : Nm) : (([(V.str (S a), strD a), (V.str (S b), strD b)] : List (V × PyData)).mergeSort (PySem.W.dataLe false (·.2))).map (·.1) = ((two a b).map S).map V.str := by
  have e : ∀ x y : Nm, PySem.W.dataLe false (·.2) ((V.str (S x), strD x) : V × PyData) (V.str (S y), strD y) = leN x y := fun x y =>
    congrFun (congrFun (PySem.W.dataLe_str fun z : Nm => S z) x) y
  rw [ms_two, e]
  unfold two
  by_cases c : leN a b = true
  · rw [if_pos c, if_pos c]
    rfl
  · rw [if_neg c, if_neg c]
    rfl
theorem srt_all (a b : Nm) : PySem.W.AllAlike (([(V.str (S a), strD a), (V.str (S b), strD b)] : List (V × PyData)).map (·.2)) ∧ PySem.W.Sortable (([(V.str (S a), strD a), (V.str (S b), strD b)] : List (V × PyData)).map (·.2)) := by
  constructor
  · intro d hd d' hd'
    simp only [List.map_cons, List.map_nil, List.mem_cons, List.not_mem_nil, or_false] at hd hd'
    rcases hd with rfl | rfl <;> rcases hd' with rfl | rfl <;> rfl
  · refine .inr fun d hd => ?_
    simp only [List.map_cons, List.map_nil, List.mem_cons, List.not_mem_nil, or_false] at hd
    rcases hd with rfl | rfl
    · exact ⟨(by intro z; cases z), fun xs z => by cases z⟩
    · exact ⟨(by intro z; cases z), fun xs z => by cases z⟩
end Far

namespace Far
open PySem PySem.Spec PyProof.Rows L2 LamX
open C8 (pss_cut tCut)
open SX (S)
/-! ### what stands but for tables -/
theorem TK.ofN {H H' : Hp} (e : ExtN H H') : TK H H' := ⟨fun a xs h => e _ _ h (fun ps z => by cases z), fun a o u h => e _ _ h (fun ps z => by cases z)⟩
/-- the pairs, farthest first, equally far ones in their order -/
noncomputable def byFar (pl : List Nm) (ts : List Tie) : List Tri := (pairsOf pl ts).mergeSort fun x y => decide (-x.1 ≤ -y.1)
theorem byFar_len (pl : List Nm) (ts : List Tie) : (byFar pl ts).length = (pairsOf pl ts).length := List.length_mergeSort _
noncomputable def nthD (pl : List Nm) (ts : List Tie) (n : Int) : PyData := if 0 ≤ n then match (byFar pl ts)[n.toNat]? with | some x => triD x | none => .none else .none
open Classical in
/-- the first item of the tuple at y -/
noncomputable def fstK (H : Hp) (y : V) : Int := if h : ∃ n, ∃ t zs, y = V.ref t ∧ H t = some (.tup (.int n :: zs)) then h.choose else 0
theorem fstK_is {H : Hp} {t : Addr} {n : Int} {zs : List V} (h : H t = some (.tup (.int n :: zs))) : fstK H (.ref t) = n := by
  have q : ∃ n, ∃ t' zs, V.ref t = V.ref t' ∧ H t' = some (.tup (.int n :: zs)) := ⟨n, t, zs, rfl, h⟩
  unfold fstK
  rw [dif_pos q]
  obtain ⟨t', zs', e, h'⟩ := q.choose_spec
  cases e
  rw [h] at h'
  cases h'
  rfl
/-- sorted alike: values and what they read as -/
theorem dtall_sort {H : Hp} {ws : List V} {ps : List Tri} (h : DtAll H ws (ps.map triD)) :
    DtAll H (ws.mergeSort fun y z => decide (-(fstK H y) ≤ -(fstK H z))) ((ps.mergeSort fun x y => decide (-x.1 ≤ -y.1)).map triD) ∧ ∀ y ∈ ws, ∃ t zs, y = V.ref t ∧ H t = some (.tup (.int (fstK H y) :: zs)) := by
  have hl := DtAll.len h
  rw [List.length_map] at hl
  have at_ : ∀ q ∈ ws.zip ps, Dt H q.1 (triD q.2) := fun q hq => by
    obtain ⟨i, hi⟩ := List.getElem?_of_mem hq
    rw [List.getElem?_zip_eq_some] at hi
    obtain ⟨d, h1, h2⟩ := DtAll.get h hi.1
    rw [List.getElem?_map, hi.2] at h1
    cases h1
    exact h2
  have key : ∀ q ∈ ws.zip ps, fstK H q.1 = q.2.1 ∧ ∃ t zs, q.1 = V.ref t ∧ H t = some (.tup (.int q.2.1 :: zs)) := fun q hq => by
    obtain ⟨u, e, hu⟩ := dt_tri (at_ q hq)
    rw [e]
    exact ⟨fstK_is hu, u, _, rfl, hu⟩
  have e1 : (ws.zip ps).map (·.1) = ws := by rw [List.map_fst_zip]; omega
  have e2 : (ws.zip ps).map (·.2) = ps := by rw [List.map_snd_zip]; omega
  refine ⟨?_, fun y hy => ?_⟩
  · have m1 := List.map_mergeSort (r := fun p q : V × Tri => decide (-p.2.1 ≤ -q.2.1)) (s := fun y z => decide (-(fstK H y) ≤ -(fstK H z))) (f := fun q : V × Tri => q.1) (l := ws.zip ps) (fun a ha b hb => by
      rw [(key a ha).1, (key b hb).1])
    have m2 := List.map_mergeSort (r := fun p q : V × Tri => decide (-p.2.1 ≤ -q.2.1)) (s := fun x y : Tri => decide (-x.1 ≤ -y.1)) (f := fun q : V × Tri => q.2) (l := ws.zip ps) (fun a _ b _ => rfl)
    rw [e1] at m1
    rw [e2] at m2
    rw [← m1, ← m2]
    have all : ∀ l : List (V × Tri), (∀ q ∈ l, Dt H q.1 (triD q.2)) → DtAll H (l.map (·.1)) ((l.map (·.2)).map triD) := fun l => by
      induction l with
      | nil => exact fun _ => .nil
      | cons q l ih => exact fun hq => .cons (hq q List.mem_cons_self) (ih fun q' h' => hq q' (List.mem_cons_of_mem _ h'))
    exact all _ fun q hq => at_ q (List.mem_mergeSort.mp hq)
  · rw [← e1] at hy
    obtain ⟨q, hq, rfl⟩ := List.mem_map.mp hy
    obtain ⟨k1, t, zs, k2, k3⟩ := key q hq
    exact ⟨t, zs, k2, by rw [k1]; exact k3⟩

/-- a def whose code object stands at c -/
structure FunC (K : PySem.W.Frag) (x qual : Str) (st : Stmt) (f : Addr) (fd : FuncData) (c : Addr) : Prop where
  ex : ∃ (oc : Value) (od : Option Addr) (kV doc pm : Value) (an : Option Addr) (ct : Value) (osl : Array (Option Value)),
    fd = PySem.W.fnOf x qual (defArgs st) (defBody st) (defScope st) .none kV doc pm an (.ref c) ct ∧ K.lookup f = some ⟨oc, od, .func fd, osl⟩ ∧ PySem.W.codeIn K (.ref c) qual = true
section
variable {P : Program} {w : World} {K : PySem.W.Frag} {mg : Str → Option Value} {base : Heap}
theorem FunC.ok {x qual : Str} {st : Stmt} {f c : Addr} {fd : FuncData} {N ps : List Str} {k : Nat} {sp : Sp} (F : FunC K x qual st f fd c) (S : FnScope N ps (defScope st)) (len : ∀ vs H Q E, sp vs H Q E → vs.length = ps.length)
    (hbody : ∀ (A : Around) (outer : List Env) (s : Shared) (H : Hp) (vs : List V) (Q : VK) (E : XK), Room k (A.deeper (envOfC qual (defScope st) s.heap.objs.size f (.ref c))) → sp vs H Q E →
      ∃ t, PSs (cxOf CX0 P w K mg base N qual (defScope st) f (.ref c) A outer s H E).nox (defBody st) t ∧ t { nx := fun _ H' => Q .non H', rt := Q } (start N vs) H) : FnOk P w K mg base CX0 (k + 1) f fd ps sp := by
  obtain ⟨oc, od, kV, doc, pm, an, ct, osl, rfl, lk, hcd⟩ := F.ex
  refine fn_of lk hcd S len fun A outer s H vs Q E hr hsp => ?_
  obtain ⟨t, h, q⟩ := hbody A outer s H vs Q E hr hsp
  exact ⟨t, h.nox, q⟩
end
structure TxtN (mg : Str → Option Value) : Prop where
  len : mg "len" = none
  sorted : mg "sorted" = none
abbrev s_nth_farthest : Stmt := topS 12
abbrev N_nth_farthest : List Str := ["tree", "place", "pairs"]
theorem sc_nth_farthest : FnScope N_nth_farthest ["tree", "place"] (defScope s_nth_farthest) := ⟨rfl, rfl, rfl, by decide +kernel, rfl, by decide +kernel, by decide +kernel⟩
def qLam : Str := ("nth_farthest" : Str) ++ ".<locals>." ++ "<lambda>"
section
variable {P : Program} {w : World} {K : PySem.W.Frag} {mg : Str → Option Value} {base : Heap}
def spNth (Pt : Addr) : Sp := fun vs H Q _ => ∃ (v : V) (pl : List Nm) (ts : List Tie) (n : Int), vs = [v, .int n] ∧ Dt H v (treeD pl ts) ∧ Fine pl ts ∧ Tabs [(Pt, qLam)] H ∧ ∀ (H' : Hp) (r : V), ExtN H H' → Tabs [(Pt, qLam)] H' → Dt H' r (nthD pl ts n) → Q r H'
theorem ok_nth {f c Pt : Addr} {fd : FuncData} (F : FunC K "nth_farthest" "nth_farthest" s_nth_farthest f fd c) (T : TxtN mg) (TB : TabB base mg c Pt) (Cpairs_in_order : Cal P w K mg base 4 "pairs_in_order" spPio) : FnOk P w K mg base CX0 5 f fd ["tree", "place"] (spNth Pt) := by
  refine F.ok sc_nth_farthest (fun vs H Q E h => ?_) (fun A outer s H vs Q E hr h => ?_)
  · obtain ⟨v, pl, ts, n, rfl, _⟩ := h
    rfl
  · obtain ⟨v, pl, ts, n, rfl, hd, fine, hT, q⟩ := h
    refine ⟨_, (pss_cons (ps_set (i := 2) sc_nth_farthest.nd rfl (.inl rfl) (pe_callL TB (by rfl) (List.mem_cons_self) (fun p hp _ => by rw [List.mem_singleton.mp hp]) (cr_sortedLam (y := "pair") (g := fun i => -i) (hr.mono (by decide)) (by exact ⟨rfl, rfl, rfl, by decide, by decide, rfl⟩) body_neg (fun _ _ _ _ _ => rfl)) (by rfl) T.sorted bt_sorted (pa_cons (pe_c Cpairs_in_order hr (by decide) rfl (pa_cons (pv 0) pa_nil)) pa_nil) (by rfl) (by decide)))
      (pss_cut (ps_if (pt_chain op_le op_lt pe_int (pv 1) (pe_callB call_len_seq (by rfl) T.len bt_len (pa_cons (pv 2) pa_nil)))
        (pss_one (ps_ret (pe_ix ix_list (pv 2) (pv 1) (fun _ _ => rfl))))
        pss_nil)
      (pss_one (ps_ret pe_non)))), ?_⟩
    refine ⟨_, rfl, v, pl, ts, rfl, hd, fine, fun H1 D ws S1 nD hD hW => ?_⟩
    refine ⟨hT.ext S1, fun H2 e2 T2 => ?_⟩
    have hW2 := DtAll.keep (TK.ofN e2) hW
    obtain ⟨srt, key⟩ := dtall_sort hW2
    refine ⟨D, ws, fstK H2, rfl, SqL.of (e2 _ _ hD (fun ps z => by cases z)), key, fun p np => ?_⟩
    have hl : (ws.mergeSort fun y z => decide (-fstK H2 y ≤ -fstK H2 z)).length = (byFar pl ts).length := by
      have := DtAll.len srt
      rw [List.length_map] at this
      exact this
    show _
    generalize ess : (ws.mergeSort fun y z => decide (-fstK H2 y ≤ -fstK H2 z)) = ss at srt hl
    have T3 : Tabs [(Pt, qLam)] (upd H2 p (.lst ss)) := Tabs.ext T2 fun b o h => by rw [upd_ne (ne_of_none h np)]; exact h
    have e3 : ExtN H (upd H2 p (.lst ss)) := fun b o h n => by
      have h2 := e2 b o (S1 b o h) n
      rw [upd_ne (ne_of_none h2 np)]
      exact h2
    have srt3 := DtAll.keep (TK.new (o := .lst ss) np) srt
    have hp : (upd H2 p (.lst ss)) p = some (.lst ss) := upd_same
    simp only [ess]
    generalize upd H2 p (.lst ss) = H3 at T3 e3 srt3 hp
    refine ⟨fun σ' H' => H' = H3 ∧ nthD pl ts n = .none, ?_, fun σ' H' hM => ?_⟩
    · refine ⟨_, rfl, _, _, rfl, rfl, _, rfl, ?_⟩
      by_cases c0 : 0 ≤ n
      · rw [if_pos (decide_eq_true c0)]
        refine ⟨_, rfl, p, _, rfl, .inl (SqL.of hp), _, _, rfl, rfl, _, rfl, ?_⟩
        refine ite2 (fun z => ?_) (fun z => ?_)
        · have z : n < (ss.length : Int) := of_decide_eq_true z
          have lt : n.toNat < ss.length := by omega
          have hn : ss[n.toNat]? = some ss[n.toNat] := List.getElem?_eq_getElem lt
          generalize ss[n.toNat] = v1 at hn
          have hv1 : atI ss n = some v1 := by
            have e : n = ((n.toNat : Nat) : Int) := by omega
            rw [e]
            exact atI_nat (by simpa using hn)
          refine ⟨_, rfl, _, rfl, p, _, n, v1, rfl, rfl, SqL.of hp, hv1, ?_⟩
          refine q _ _ e3 T3 ?_
          obtain ⟨d, h1, h2⟩ := DtAll.get srt3 hn
          unfold nthD
          rw [if_pos c0]
          rw [List.getElem?_map] at h1
          show Dt _ _ (match (byFar pl ts)[n.toNat]? with | some x => triD x | none => .none)
          cases eb : (byFar pl ts)[n.toNat]? with
          | none =>
            have : ((pairsOf pl ts).mergeSort fun x y => decide (-x.1 ≤ -y.1))[n.toNat]? = none := eb
            rw [this] at h1
            cases h1
          | some x =>
            have : ((pairsOf pl ts).mergeSort fun x y => decide (-x.1 ≤ -y.1))[n.toNat]? = some x := eb
            rw [this] at h1
            cases h1
            exact h2
        · refine ⟨rfl, ?_⟩
          have z : ¬ n < (ss.length : Int) := of_decide_eq_false (by simpa using z)
          unfold nthD
          rw [if_pos c0]
          have : (byFar pl ts)[n.toNat]? = none := List.getElem?_eq_none (by omega)
          rw [this]
      · rw [if_neg (by simpa using c0)]
        refine ⟨_, rfl, ?_⟩
        refine iteF ⟨rfl, ?_⟩
        unfold nthD
        rw [if_neg c0]
    · obtain ⟨rfl, hN⟩ := hM
      exact q _ _ e3 T3 (by rw [hN]; exact .non)
end
end Far

namespace Far
open PySem PySem.Spec PyProof.Rows L2
open C8 (pss_cut tCut)
open SX (S)
structure TxtM09 (mg : Str → Option Value) : Prop where
  len : mg "len" = none
  max : mg "max" = none
  range : mg "range" = none
theorem at_int {ls : List Int} {i : Nat} {v : V} (hi : (ls.map V.int)[i]? = some v) : ∃ n, ls[i]? = some n ∧ v = .int n ∧ ls.take (i + 1) = ls.take i ++ [n] := by
  rw [List.getElem?_map] at hi
  cases el : ls[i]? with
  | none => rw [el] at hi; cases hi
  | some x => rw [el] at hi; exact ⟨x, rfl, (Option.some.inj hi).symm, by rw [List.take_add_one, el]; rfl⟩
noncomputable def lensOf (pl : List Nm) (ts : List Tie) : List Int := (pairsOf pl ts).map (·.1)
theorem lens_len {pl : List Nm} {ts : List Tie} (F : Fine pl ts) : (lensOf pl ts).length ≤ 1000000 := by
  unfold lensOf
  rw [List.length_map]
  exact Nat.le_trans (prs_len pl ts _) (Nat.mul_le_mul F.len F.len)
theorem countV_int (ls : List Int) (n : Int) : (ls.map V.int).countP (fun z => eqV z (.int n)) = ls.countP fun z => z == n := by
  rw [List.countP_map]
  rfl
theorem flat_ints (ls : List Int) : (ls.map V.int).all flatV = true := by
  rw [List.all_eq_true]
  intro v hv
  obtain ⟨n, _, rfl⟩ := List.mem_map.mp hv
  rfl
/-- how many are n, how many are greater -/
def cntD (ls : List Int) (n : Int) : PyData := .tuple [.int ((ls.countP fun z => z == n : Nat) : Int), .int ((ls.filter fun z => decide (z > n)).length : Nat)]
theorem eqV_int (a b : Int) : eqV (.int a) (.int b) = (a == b) := rfl
theorem filt_snoc {ls : List Int} {p : Int → Bool} {i : Nat} {x : Int} (h : ls.take (i + 1) = ls.take i ++ [x]) : (ls.take (i + 1)).filter p = (ls.take i).filter p ++ (if p x = true then [x] else []) := by
  rw [h, List.filter_append]
  by_cases c : p x = true
  · rw [if_pos c, List.filter_cons, if_pos c]
    rfl
  · rw [if_neg c, List.filter_cons, if_neg c]
    rfl
abbrev s_count_so_far : Stmt := topS 13
abbrev N_count_so_far : List Str := ["tree", "length", "lengths", "pair", "found"]
theorem sc_count_so_far : FnScope N_count_so_far ["tree", "length"] (defScope s_count_so_far) := ⟨rfl, rfl, rfl, by decide +kernel, rfl, by decide +kernel, by decide +kernel⟩
section
variable {P : Program} {w : World} {K : PySem.W.Frag} {mg : Str → Option Value} {base : Heap}
def spCount : Sp := fun vs H Q _ => ∃ (v : V) (pl : List Nm) (ts : List Tie) (n : Int), vs = [v, .int n] ∧ Dt H v (treeD pl ts) ∧ Fine pl ts ∧ ∀ (H' : Hp) (r : V), Same H H' → Dt H' r (cntD (lensOf pl ts) n) → Q r H'
theorem ok_count {f : Addr} {fd : FuncData} (F : Fun K "count_so_far" "count_so_far" s_count_so_far f fd) (T : TxtM09 mg) (Cpairs_in_order : Cal P w K mg base 4 "pairs_in_order" spPio) : FnOk P w K mg base CX0 5 f fd ["tree", "length"] spCount := by
  refine F.ok sc_count_so_far (fun vs H Q E h => ?_) (fun cdv A outer s H vs Q E hr h => ?_)
  · obtain ⟨v, pl, ts, n, rfl, _⟩ := h
    rfl
  · obtain ⟨v, pl, ts, n, rfl, hd, fine, q⟩ := h
    have ll := lens_len fine
    refine ⟨_, (pss_cons (ps_setLc (i := 2) (own := [("pair", 3)]) (g := gName 3) (tt := tYes) rfl sc_count_so_far.nd rfl rfl (sw_true rfl rfl rfl (by decide +kernel)) (pi_list (pe_c Cpairs_in_order hr (by decide) rfl (pa_cons (pv 0) pa_nil))) (blkOk_by (N := N_count_so_far) (sc := defScope s_count_so_far) (by decide +kernel)) (fun _ _ _ _ _ => pg_name (i := 3) sc_count_so_far.nd rfl (Or.inl rfl)) (fun _ _ _ _ _ => pts_nil) (fun _ _ _ _ _ => (pe_ix (ixt (K := K)) (pv 3) pe_int (fun _ _ => rfl))))
      (pss_one (ps_ret (pe_tup (pa_cons (pe_bm PySem.F.plainAttrs_list PySem.F.slot_list_count PySem.F.type_list_count mt_countV (pv 2) (pa_cons (pv 1) pa_nil)) (pa_cons (pe_callB call_len_seq (by rfl) T.len bt_len (pa_cons (pe_lc (own := [("found", 4)]) (g := gName 4)  rfl sc_count_so_far.nd (pi_list (pv 2)) (blkOk_by (N := N_count_so_far) (sc := defScope s_count_so_far) (by decide +kernel)) (fun _ _ _ _ _ => pg_name (i := 4) sc_count_so_far.nd rfl (Or.inl rfl)) (fun _ _ _ _ _ => pts_one (pt_cmpR op_gt (pv 4) (pv 1) (nomark _))) (fun _ _ _ _ _ => (pv 4))) pa_nil)) pa_nil)))))), ?_⟩
    refine ⟨_, rfl, v, pl, ts, rfl, hd, fine, fun H1 D ws S1 nD hD hW => ?_⟩
    have wl := DtAll.len hW
    rw [List.length_map] at wl
    refine ⟨D, rfl, ⟨_, SqL.of hD⟩, fun C nC => ?_⟩
    refine lc_list (K := K) (a := D) (xs := ws) (fun i H' => Same H1 H' ∧ H' C = some (.lst (((lensOf pl ts).take i).map V.int))) ⟨same_new (Same.refl H1) nC, upd_same⟩ (fun i H' _ hP => SqL.of (hP.1 _ _ hD)) (fun i v H' hi hP => ?_) (fun H' hP => ?_)
    · obtain ⟨sm, hC⟩ := hP
      obtain ⟨d, hd, hx⟩ := DtAll.get hW hi
      rw [List.getElem?_map] at hd
      cases ee : (pairsOf pl ts)[i]? with
      | none => rw [ee] at hd; cases hd
      | some x =>
        rw [ee] at hd
        have ed : d = triD x := (Option.some.inj hd).symm
        subst ed
        obtain ⟨u2, rfl, hu2⟩ := dt_tri hx
        have el : (lensOf pl ts)[i]? = some x.1 := by
          unfold lensOf
          rw [List.getElem?_map, ee]
          rfl
        refine ⟨rfl, _, rfl, u2, _, 0, .int x.1, rfl, rfl, SqT.of (sm _ _ hu2), rfl, _, hC, ?_, same_put sm nC, ?_⟩
        · rw [List.length_map, List.length_take]
          exact szM (by omega)
        · rw [upd_same, List.take_add_one, el, List.map_append]
          rfl
    · obtain ⟨sm, hC⟩ := hP
      have e1 : ws.length = (lensOf pl ts).length := by
        unfold lensOf
        rw [List.length_map, wl]
      rw [e1, List.take_length] at hC
      have S2 := S1.trans sm
      refine ⟨_, rfl, .inl ⟨rfl, _, SqL.of hC⟩, _, rfl, C, _, .int n, rfl, rfl, SqL.of hC, rfl, flat_ints _, ?_⟩
      refine ⟨_, rfl, C, rfl, ⟨_, SqL.of hC⟩, fun B nB => ?_⟩
      refine lc_list (K := K) (a := C) (xs := (lensOf pl ts).map V.int) (fun i H'' => Same H' H'' ∧ H'' B = some (.lst ((((lensOf pl ts).take i).filter fun z => decide (z > n)).map V.int))) ⟨same_new (Same.refl H') nB, upd_same⟩ (fun i H'' _ hP => SqL.of (hP.1 _ _ hC)) (fun i v H'' hi hP => ?_) (fun H'' hP => ?_)
      · obtain ⟨sm2, hB⟩ := hP
        obtain ⟨m, em, rfl, et⟩ := at_int hi
        have et := filt_snoc (p := fun z => decide (z > n)) et
        refine ⟨rfl, _, rfl, _, rfl, _, _, rfl, rfl, _, rfl, ?_⟩
        refine ite2 (fun z => ?_) (fun z => ?_)
        · rw [if_pos z] at et
          refine ⟨_, rfl, _, hB, ?_, same_put sm2 nB, ?_⟩
          · rw [List.length_map]
            have := List.length_filter_le (fun z => decide (z > n)) ((lensOf pl ts).take i)
            rw [List.length_take] at this
            exact szM (by omega)
          · rw [upd_same, et, List.map_append]
            rfl
        · rw [if_neg z, List.append_nil] at et
          exact ⟨sm2, by rw [et]; exact hB⟩
      · obtain ⟨sm2, hB⟩ := hP
        rw [List.length_map, List.take_length] at hB
        refine ⟨B, _, rfl, .inl (SqL.of hB), ?_⟩
        refine ⟨(by show 2 ≤ sizeLine; decide), fun r nr => ?_⟩
        refine q _ _ (same_new (S2.trans sm2) nr) ?_
        rw [List.length_map, countV_int]
        exact .tup upd_same (.cons (.int _) (.cons (.int _) .nil))
end
end Far

namespace Far
open PySem PySem.Spec PyProof.Rows L2
open SX (S)
/-! ### all pairs, place by place, and their sum -/
noncomputable def prsR (ts : List Tie) : List Nm → List Tri
  | [] => []
  | a :: r => r.map (fun y => (dist ts a y, a, y)) ++ prsR ts r
theorem pairsOf_rec (ts : List Tie) : ∀ pl : List Nm, pairsOf pl ts = prsR ts pl
  | [] => rfl
  | a :: r => by
    have ih := pairsOf_rec ts r
    show prs (a :: r) ts (r.length + 1) = r.map (fun y => (dist ts a y, a, y)) ++ prsR ts r
    rw [← ih]
    unfold pairsOf prs
    rw [List.range_succ_eq_map, List.flatMap_cons, List.flatMap_map]
    rfl
theorem sum_add {α : Type} (f g : α → Int) : ∀ l : List α, (l.map fun x => f x + g x).sum = (l.map f).sum + (l.map g).sum
  | [] => rfl
  | a :: r => by
    have ih := sum_add f g r
    simp only [List.map_cons, List.sum_cons]
    omega
/-- what the ways from u come to -/
noncomputable def sumOf (pl : List Nm) (ts : List Tie) (u : Nm) : Int := (pl.map fun x => dist ts u x).sum
/-- what all ways of two places come to -/
noncomputable def totOf (pl : List Nm) (ts : List Tie) : Int := ((pairsOf pl ts).map (·.1)).sum
theorem tot_twice {ts : List Tie} {d : Nm → Nm → Int} (hd : dist ts = d) : ∀ pl : List Nm, (∀ u ∈ pl, d u u = 0) → (∀ u ∈ pl, ∀ v ∈ pl, d u v = d v u) → (pl.map fun u => (pl.map fun x => d u x).sum).sum = 2 * ((prsR ts pl).map (·.1)).sum
  | [], _, _ => rfl
  | a :: r, h0, hs => by
    have ih := tot_twice hd r (fun u hu => h0 u (List.mem_cons_of_mem _ hu)) fun u hu v hv => hs u (List.mem_cons_of_mem _ hu) v (List.mem_cons_of_mem _ hv)
    have e0 := h0 a (List.mem_cons_self ..)
    have e1 : (r.map fun u => ((a :: r).map fun x => d u x).sum).sum = (r.map fun u => d u a).sum + (r.map fun u => (r.map fun x => d u x).sum).sum := by
      simp only [List.map_cons, List.sum_cons]
      exact sum_add (fun u => d u a) (fun u => (r.map fun x => d u x).sum) r
    have e2 : (r.map fun u => d u a) = r.map fun u => d a u := List.map_congr_left fun u hu => hs u (List.mem_cons_of_mem _ hu) a (List.mem_cons_self ..)
    have e3 : ((prsR ts (a :: r)).map (·.1)).sum = (r.map fun u => d a u).sum + ((prsR ts r).map (·.1)).sum := by
      show ((r.map (fun y => (dist ts a y, a, y)) ++ prsR ts r).map (·.1)).sum = _
      rw [List.map_append, List.sum_append, List.map_map, hd]
      rfl
    rw [List.map_cons, List.sum_cons, e1, e2, ih, e3, List.map_cons, List.sum_cons, e0]
    omega
theorem tot_sums {pl : List Nm} {ts : List Tie} (F : IsTree pl ts) : (pl.map (sumOf pl ts)).sum = 2 * totOf pl ts := by
  unfold totOf
  rw [pairsOf_rec]
  exact tot_twice rfl pl (fun u _ => (F.dist_self u).1) fun u hu v hv => (F.dist_symm hu hv).1
end Far

namespace Far
open PySem
open SX (S)
/-! ### ways cut, put together -/
theorem snoc_cons {α : Type} {p p1 p2 : List α} {w m : α} (h : p ++ [w] = p1 ++ m :: p2) : (p2 = [] ∧ p1 = p ∧ m = w) ∨ ∃ p3, p2 = p3 ++ [w] ∧ p = p1 ++ m :: p3 := by
  rcases List.eq_nil_or_concat p2 with e | ⟨p3, z, e⟩
  · subst e
    have := List.append_inj' h rfl
    exact .inl ⟨rfl, this.1.symm, by simpa using this.2.symm⟩
  · rw [e] at h ⊢
    have h' : p ++ [w] = (p1 ++ m :: p3) ++ [z] := by rw [h]; simp
    have := List.append_inj' h' rfl
    refine .inr ⟨p3, ?_, this.1⟩
    have : w = z := by simpa using this.2
    rw [this]
    simp
theorem Way.split {ts : List Tie} {u v : Nm} {p : List Nm} {L : Int} (h : Way ts u v p L) : ∀ {p1 p2 : List Nm} {m : Nm}, p = p1 ++ m :: p2 → ∃ L1 L2, Way ts u m (p1 ++ [m]) L1 ∧ Way ts m v (m :: p2) L2 ∧ L = L1 + L2 := by
  induction h with
  | nil =>
    intro p1 p2 m e
    have h1 : p1 = [] ∧ m = u ∧ p2 = [] := by
      cases p1 with
      | nil =>
        have := List.cons.inj e
        exact ⟨rfl, this.1.symm, this.2.symm⟩
      | cons a r =>
        have := congrArg List.length e
        simp at this
    obtain ⟨rfl, rfl, rfl⟩ := h1
    exact ⟨0, 0, .nil, .nil, by omega⟩
  | @snoc v w p L k h1 ha hn ih =>
    intro p1 p2 m e
    rcases snoc_cons e with ⟨rfl, rfl, rfl⟩ | ⟨p3, rfl, rfl⟩
    · exact ⟨L + k, 0, .snoc h1 ha hn, .nil, by omega⟩
    · obtain ⟨L1, L2, w1, w2, el⟩ := ih rfl
      exact ⟨L1, L2 + k, w1, .snoc w2 ha (fun z => hn (List.mem_append_right _ z)), by omega⟩
theorem Way.join {ts : List Tie} {u m v : Nm} {p1 q : List Nm} {L1 L2 : Int} (h1 : Way ts u m (p1 ++ [m]) L1) (h2 : Way ts m v q L2) (d : ∀ y ∈ q, y ∉ p1) : Way ts u v (p1 ++ q) (L1 + L2) := by
  induction h2 with
  | nil => simpa using h1
  | @snoc v w q L k h ha hn ih =>
    have := Way.snoc (ih fun y hy => d y (List.mem_append_left _ hy)) ha (w := w) (fun z => by
      rcases List.mem_append.mp z with z | z
      · exact d w (by simp) z
      · exact hn z)
    rw [List.append_assoc] at this
    rw [← Int.add_assoc]
    exact this
theorem first_in (q : List Nm) : ∀ {p : List Nm}, (∃ y ∈ p, y ∈ q) → ∃ A m B, p = A ++ m :: B ∧ m ∈ q ∧ ∀ y ∈ A, y ∉ q
  | [], h => by simp at h
  | a :: r, h => by
    by_cases e : a ∈ q
    · exact ⟨[], a, r, rfl, e, by simp⟩
    · obtain ⟨y, hy, hq⟩ := h
      rcases List.mem_cons.mp hy with z | z
      · exact absurd (z ▸ hq) e
      · obtain ⟨A, m, B, e1, e2, e3⟩ := first_in q ⟨y, z, hq⟩
        refine ⟨a :: A, m, B, by rw [e1]; rfl, e2, fun y hy => ?_⟩
        rcases List.mem_cons.mp hy with z | z
        · exact z ▸ e
        · exact e3 y z
theorem last_of {p : List Nm} {x : Nm} {A B : List Nm} {m : Nm} (h : p ++ [x] = A ++ m :: B) : (B = [] ∧ m = x) ∨ x ∈ B := by
  rcases snoc_cons h with ⟨e, _, em⟩ | ⟨p3, e, _⟩
  · exact .inl ⟨e, em⟩
  · exact .inr (by rw [e]; simp)
/-- the place where three ways meet -/
theorem IsTree.median {pl : List Nm} {ts : List Tie} (h : IsTree pl ts) {u v x : Nm} (hu : u ∈ pl) (hv : v ∈ pl) (hx : x ∈ pl) : ∃ (m : Nm) (A B C : List Nm) (d : Int), path ts u x = A ++ m :: B ∧ path ts x v = B.reverse ++ m :: C ∧ path ts u v = A ++ m :: C ∧
    (∀ y ∈ A, y ∉ path ts x v) ∧ dist ts u x + dist ts x v = dist ts u v + 2 * d ∧ 0 ≤ d ∧ (d = 0 ↔ B = []) := by
  have wp := h.the_way hu hx
  have wq := h.the_way hx hv
  obtain ⟨A, m, B, ep, mq, dA⟩ := first_in (path ts x v) ⟨x, wp.mem, by
    obtain ⟨r, e⟩ := wq.first
    rw [e]
    simp⟩
  obtain ⟨B', C, eq⟩ := List.append_of_mem mq
  obtain ⟨L1, L2, w1, w2, el⟩ := wp.split ep
  obtain ⟨L3, L4, w3, w4, el2⟩ := wq.split eq
  have wr := w2.rev
  rw [List.reverse_cons] at wr
  obtain ⟨eb, e23⟩ := h.one_way w3 wr
  have eb' : B' = B.reverse := (List.append_inj' eb rfl).1
  subst eb'
  have wj := w1.join w4 (fun y hy z => dA y z (by rw [eq]; exact List.mem_append_right _ hy))
  obtain ⟨f1, f2⟩ := h.is_way wj
  obtain ⟨n0, n1⟩ := w2.nonneg (fun e he => (h.ties e he).2.2.1)
  refine ⟨m, A, B, C, L2, ep, eq, f1, dA, by omega, n0, ?_, fun e => ?_⟩
  · intro e
    rw [List.length_cons] at n1
    exact List.eq_nil_of_length_eq_zero (by omega)
  · subst e
    obtain ⟨r, er⟩ := w2.last
    have em : x = m := by
      cases r with
      | nil => exact (List.cons.inj er).1.symm
      | cons a r =>
        have := congrArg List.length er
        simp at this
    subst em
    exact (h.one_way w2 .nil).2
/-- over a third place no way is shorter; just as long where it is on the way -/
theorem IsTree.over {pl : List Nm} {ts : List Tie} (h : IsTree pl ts) {u v x : Nm} (hu : u ∈ pl) (hv : v ∈ pl) (hx : x ∈ pl) : dist ts u v ≤ dist ts u x + dist ts x v ∧ (dist ts u x + dist ts x v = dist ts u v ↔ x ∈ path ts u v) ∧
    ∃ m, (path ts u v).filter (fun y => decide (y ∈ path ts u x) && decide (y ∈ path ts x v)) = [m] := by
  obtain ⟨m, A, B, C, d, e1, e2, e3, dA, ed, d0, db⟩ := h.median hu hv hx
  have np := (h.the_way hu hx).nodup
  have nq := (h.the_way hx hv).nodup
  obtain ⟨r, er⟩ := (h.the_way hu hx).last
  obtain ⟨t, et⟩ := (h.the_way hx hv).first
  rw [e1] at np er
  rw [e2] at nq et dA
  have qd := List.nodup_append.mp nq
  have pd := List.nodup_append.mp np
  refine ⟨by omega, ⟨fun e => ?_, fun e => ?_⟩, m, ?_⟩
  · have b0 := db.mp (by omega)
    subst b0
    rcases last_of er.symm with ⟨_, em⟩ | z
    · rw [e3, ← em]
      simp
    · cases z
  · rcases last_of er.symm with ⟨b0, _⟩ | z
    · have := db.mpr b0
      omega
    · exfalso
      rw [e3] at e
      rcases List.mem_append.mp e with q | q
      · exact pd.2.2 x q x (List.mem_cons_of_mem _ z) rfl
      · rcases List.mem_cons.mp q with q | q
        · exact (List.nodup_cons.mp pd.2.1).1 (q ▸ z)
        · have : x ∈ B.reverse := List.mem_reverse.mpr z
          exact qd.2.2 x this x (List.mem_cons_of_mem _ q) rfl
  · rw [e3, e1, e2, List.filter_append]
    have fA : A.filter (fun y => decide (y ∈ A ++ m :: B) && decide (y ∈ B.reverse ++ m :: C)) = [] := by
      refine List.filter_eq_nil_iff.mpr fun y hy => ?_
      simp only [Bool.and_eq_true, decide_eq_true_eq, not_and]
      exact fun _ => dA y hy
    have fC : C.filter (fun y => decide (y ∈ A ++ m :: B) && decide (y ∈ B.reverse ++ m :: C)) = [] := by
      refine List.filter_eq_nil_iff.mpr fun y hy => ?_
      simp only [Bool.and_eq_true, decide_eq_true_eq, not_and]
      intro z _
      rcases List.mem_append.mp z with z | z
      · exact dA y z (List.mem_append_right _ (List.mem_cons_of_mem _ hy))
      · rcases List.mem_cons.mp z with z | z
        · exact (List.nodup_cons.mp qd.2.1).1 (z ▸ hy)
        · exact qd.2.2 y (List.mem_reverse.mpr z) y (List.mem_cons_of_mem _ hy) rfl
    rw [fA, List.filter_cons, if_pos (by simp), fC]
    rfl
/-- two beside one another -/
theorem Way.two {ts : List Tie} {u v : Nm} {k : Int} (h : Adj ts u v k) (ne : v ≠ u) : Way ts u v [u, v] k := by
  have := Way.snoc (ts := ts) (u := u) .nil h (by simpa using ne)
  simpa using this
theorem Grown.adj_ne {os : List Nm} {es : List Tie} (g : Grown os es) : ∀ {u v : Nm} {k : Int}, Adj es u v k → v ≠ u := by
  induction g with
  | one a =>
    intro u v k h
    rcases h with h | h <;> cases h
  | @leaf os es a b k0 e0 g ha hbn he k1 k2 ih =>
    intro u v k h
    have hb : ∀ e ∈ es, e.1 ≠ b ∧ e.2.1 ≠ b := fun e hm => by
      obtain ⟨i1, i2, _⟩ := g.ties e hm
      exact ⟨fun z => hbn (z ▸ i1), fun z => hbn (z ▸ i2)⟩
    have ab : a ≠ b := fun z => hbn (z ▸ ha)
    rcases adj_new hb ab he h with ⟨h, _, _⟩ | ⟨e1, e2, _⟩ | ⟨e1, e2, _⟩
    · exact ih h
    · rw [e1, e2]
      exact Ne.symm ab
    · rw [e1, e2]
      exact ab
theorem IsTree.adj_ne {pl : List Nm} {ts : List Tie} (h : IsTree pl ts) {u v : Nm} {k : Int} (a : Adj ts u v k) : v ≠ u := by
  obtain ⟨os, es, g, _, p2⟩ := h
  exact g.adj_ne (a.perm p2)
theorem IsTree.adj_one {pl : List Nm} {ts : List Tie} (h : IsTree pl ts) {u v : Nm} {k l : Int} (a : Adj ts u v k) (b : Adj ts u v l) : k = l := (h.one_way (Way.two a (h.adj_ne a)) (Way.two b (h.adj_ne b))).2
/-- the ties of a way -/
theorem Way.hops {ts : List Tie} {u v : Nm} {p : List Nm} {L : Int} (h : Way ts u v p L) : ∃ ks : List Int, ks.length + 1 = p.length ∧ ks.sum = L ∧ ∀ (i : Nat) (x y : Nm), p[i]? = some x → p[i + 1]? = some y → ∃ k, ks[i]? = some k ∧ Adj ts x y k := by
  induction h with
  | nil => exact ⟨[], rfl, rfl, fun i x y _ e => by simp at e⟩
  | @snoc v w p L k h ha hn ih =>
    obtain ⟨ks, e1, e2, e3⟩ := ih
    refine ⟨ks ++ [k], by simp [e1], by simp [e2], fun i x y ex ey => ?_⟩
    by_cases lt : i + 1 < p.length
    · rw [List.getElem?_append_left (by omega)] at ex
      rw [List.getElem?_append_left lt] at ey
      obtain ⟨k', f1, f2⟩ := e3 i x y ex ey
      exact ⟨k', by rw [List.getElem?_append_left (by omega)]; exact f1, f2⟩
    · have ei : i + 1 = p.length := by
        have := (List.getElem?_eq_some_iff.mp ey).1
        simp at this
        omega
      rw [List.getElem?_append_left (by omega)] at ex
      rw [ei, List.getElem?_append_right (by omega)] at ey
      simp at ey
      obtain ⟨q, eq⟩ := h.last
      rw [eq] at ex ei
      rw [List.length_append, List.length_singleton] at ei
      have ei' : i = q.length := by omega
      rw [ei', List.getElem?_append_right (by omega)] at ex
      simp at ex
      rw [← ex, ← ey]
      refine ⟨k, ?_, ha⟩
      have : ks.length = i := by
        rw [eq, List.length_append, List.length_singleton] at e1
        omega
      rw [← this]
      simp
end Far

namespace Far
open PySem PySem.Spec PyProof.Rows L2
open SX (S)
/-! ### along a way the lengths rise -/
theorem Way.rising {pl : List Nm} {ts : List Tie} (F : IsTree pl ts) {u v : Nm} {p : List Nm} {L : Int} (h : Way ts u v p L) : (p.map (dist ts u)).Pairwise (· < ·) ∧ ∀ y ∈ p, dist ts u y ≤ L := by
  induction h with
  | nil =>
    refine ⟨by simp, fun y hy => ?_⟩
    rw [List.mem_singleton.mp hy, (F.dist_self u).1]
    exact Int.le_refl _
  | @snoc v w p L k hw ha hn ih =>
    have hk : 1 ≤ k := ha.elim (fun z => (F.ties _ z).2.2.1) fun z => (F.ties _ z).2.2.1
    have ew : dist ts u w = L + k := (F.is_way (Way.snoc hw ha hn)).2
    refine ⟨?_, fun y hy => ?_⟩
    · rw [List.map_append, List.pairwise_append]
      refine ⟨ih.1, by simp, fun a ha' b hb => ?_⟩
      obtain ⟨y, hy, rfl⟩ := List.mem_map.mp ha'
      have hb : b = dist ts u w := by simpa using hb
      rw [hb, ew]
      have := ih.2 y hy
      omega
    · rcases List.mem_append.mp hy with z | z
      · have := ih.2 y z
        omega
      · rw [List.mem_singleton.mp z, ew]
        exact Int.le_refl _
def cutIx (g : List Int) (W : Int) : Nat := (g.filter fun z => decide (2 * z < W)).length
theorem cutIx_iff {W : Int} : ∀ {g : List Int}, g.Pairwise (· < ·) → ∀ (i : Nat) (h : i < g.length), 2 * g[i] < W ↔ i < cutIx g W
  | [], _, i, h => absurd h (Nat.not_lt_zero _)
  | a :: r, hp, i, h => by
    obtain ⟨h1, h2⟩ := List.pairwise_cons.mp hp
    by_cases c : 2 * a < W
    · have e : cutIx (a :: r) W = cutIx r W + 1 := by
        unfold cutIx
        rw [List.filter_cons, if_pos (by simpa using c)]
        rfl
      rw [e]
      cases i with
      | zero => exact ⟨fun _ => Nat.succ_pos _, fun _ => c⟩
      | succ i =>
        have := cutIx_iff (W := W) h2 i (Nat.lt_of_succ_lt_succ h)
        show 2 * r[i]'(Nat.lt_of_succ_lt_succ h) < W ↔ _
        rw [this]
        omega
    · have hr : ∀ z ∈ r, ¬ 2 * z < W := fun z hz => by
        have := h1 z hz
        omega
      have e : cutIx (a :: r) W = 0 := by
        unfold cutIx
        rw [List.filter_cons, if_neg (by simpa using c), List.filter_eq_nil_iff.mpr (fun z hz => by simpa using hr z hz)]
        rfl
      rw [e]
      cases i with
      | zero => exact ⟨fun z => absurd z c, fun z => absurd z (Nat.lt_irrefl _)⟩
      | succ i => exact ⟨fun z => absurd z (hr _ (List.getElem_mem _)), fun z => absurd z (Nat.not_lt_zero _)⟩
/-! ### halves -/
def halfD (n : Int) : PyData := if n % 2 = 0 then .tuple [.int (n / 2), .int 1] else .tuple [.int n, .int 2]
theorem gcd_two (n : Int) : ((Nat.gcd n.natAbs (2 : Int).natAbs : Nat) : Int) = if n % 2 = 0 then 2 else 1 := by
  show ((Nat.gcd n.natAbs 2 : Nat) : Int) = _
  by_cases c : n % 2 = 0
  · rw [if_pos c, Nat.gcd_eq_right (by omega)]
    rfl
  · rw [if_neg c]
    have h1 : n.natAbs % 2 = 1 := by omega
    have : Nat.gcd n.natAbs 2 = 1 := by
      rw [Nat.gcd_comm, Nat.gcd_rec, h1]
      rfl
    rw [this]
    rfl
/-! ### the middle of the way between two places -/
noncomputable def goneOf (ts : List Tie) (u x : Nm) : List Int := (path ts u x).map (dist ts u)
noncomputable def midK (ts : List Tie) (u x : Nm) : Nat := cutIx (goneOf ts u x) (dist ts u x)
noncomputable def hi (ts : List Tie) (u x : Nm) : Nm := (path ts u x).getD (midK ts u x) []
noncomputable def lo (ts : List Tie) (u x : Nm) : Nm := (path ts u x).getD (midK ts u x - 1) []
/-- the point, and the half -/
noncomputable def pointD (pl : List Nm) (ts : List Tie) (u x : Nm) : PyData :=
  if 2 * dist ts u (hi ts u x) = dist ts u x then .tuple [strD (hi ts u x), strD (hi ts u x), .tuple [.int 0, .int 1]]
  else if pl.idxOf (lo ts u x) < pl.idxOf (hi ts u x) then .tuple [strD (lo ts u x), strD (hi ts u x), halfD (dist ts u x - 2 * dist ts u (lo ts u x))]
  else .tuple [strD (hi ts u x), strD (lo ts u x), halfD (2 * dist ts u (hi ts u x) - dist ts u x)]
structure MidF (pl : List Nm) (ts : List Tie) (u x : Nm) : Prop where
  kl : midK ts u x < (path ts u x).length
  hiE : (path ts u x)[midK ts u x]? = some (hi ts u x)
  hiM : hi ts u x ∈ path ts u x
  ge : dist ts u x ≤ 2 * dist ts u (hi ts u x)
  loE : 2 * dist ts u (hi ts u x) ≠ dist ts u x → 1 ≤ midK ts u x ∧ (path ts u x)[midK ts u x - 1]? = some (lo ts u x) ∧ lo ts u x ∈ path ts u x ∧ 2 * dist ts u (lo ts u x) < dist ts u x
  only : ∀ y ∈ path ts u x, 2 * dist ts u y = dist ts u x → y = hi ts u x
  low : ∀ y ∈ path ts u x, 2 * dist ts u y < dist ts u x → dist ts u y ≤ dist ts u (lo ts u x) ∧ (dist ts u y = dist ts u (lo ts u x) → y = lo ts u x)
  high : ∀ y ∈ path ts u x, dist ts u x < 2 * dist ts u y → dist ts u (hi ts u x) ≤ dist ts u y ∧ (dist ts u y = dist ts u (hi ts u x) → y = hi ts u x)
theorem mid_facts {pl : List Nm} {ts : List Tie} (F : IsTree pl ts) {u x : Nm} (hu : u ∈ pl) (hx : x ∈ pl) : MidF pl ts u x := by
  have w := F.the_way hu hx
  have rise := (w.rising F).1
  have iff := fun i h => cutIx_iff (W := dist ts u x) rise i h
  have gl : ((path ts u x).map (dist ts u)).length = (path ts u x).length := List.length_map _
  have g_at : ∀ (i : Nat) (h : i < (path ts u x).length), ((path ts u x).map (dist ts u))[i]'(by rw [gl]; exact h) = dist ts u ((path ts u x)[i]) := fun i h => List.getElem_map _
  have hk : midK ts u x = cutIx ((path ts u x).map (dist ts u)) (dist ts u x) := rfl
  obtain ⟨q, el⟩ := w.last
  obtain ⟨q', ef⟩ := w.first
  have d0 := (F.dist_self u).1
  have nn := (Way.nonneg (fun e he => (F.ties e he).2.2.1) w).1
  have plen : (path ts u x).length = q.length + 1 := by rw [el]; simp
  have plast : (path ts u x)[q.length]'(by omega) = x := by
    simp [el]
  have pfirst : (path ts u x)[0]'(by omega) = u := by
    simp [ef]
  have kl : midK ts u x < (path ts u x).length := by
    have h := iff q.length (by rw [gl]; omega)
    rw [g_at _ (by omega), plast] at h
    rw [hk]
    have : ¬ q.length < cutIx ((path ts u x).map (dist ts u)) (dist ts u x) := fun z => by
      have := h.mpr z
      omega
    omega
  have inj : ∀ (i j : Nat) (hi : i < (path ts u x).length) (hj : j < (path ts u x).length), i < j → dist ts u ((path ts u x)[i]) < dist ts u ((path ts u x)[j]) := fun i j hi hj lt => by
    have := List.pairwise_iff_getElem.mp rise i j (by rw [gl]; exact hi) (by rw [gl]; exact hj) lt
    rwa [g_at i hi, g_at j hj] at this
  have iff' : ∀ (i : Nat) (h : i < (path ts u x).length), 2 * dist ts u ((path ts u x)[i]) < dist ts u x ↔ i < midK ts u x := fun i h => by
    have := iff i (by rw [gl]; exact h)
    rwa [g_at i h] at this
  have ehi : hi ts u x = (path ts u x)[midK ts u x] := by
    unfold hi
    simp [List.getD, kl]
  have ge : dist ts u x ≤ 2 * dist ts u (hi ts u x) := by
    rw [ehi]
    have := (iff' _ kl).mp
    by_cases c : 2 * dist ts u ((path ts u x)[midK ts u x]) < dist ts u x
    · exact absurd (this c) (Nat.lt_irrefl _)
    · omega
  have elo : lo ts u x = (path ts u x)[midK ts u x - 1]'(by omega) := by
    unfold lo
    simp [List.getD, show midK ts u x - 1 < (path ts u x).length by omega]
  refine ⟨kl, by rw [ehi]; exact List.getElem?_eq_getElem kl, by rw [ehi]; exact List.getElem_mem _, ge, fun ne => ?_, fun y hy e => ?_, fun y hy lt => ?_, fun y hy lt => ?_⟩
  · have k1 : 1 ≤ midK ts u x := by
      by_cases c : 1 ≤ midK ts u x
      · exact c
      · exfalso
        have k0 : midK ts u x = 0 := by omega
        have e0 : hi ts u x = u := by
          rw [ehi]
          simp only [k0]
          exact pfirst
        rw [e0, d0] at ne ge
        omega
    refine ⟨k1, by rw [elo]; exact List.getElem?_eq_getElem _, by rw [elo]; exact List.getElem_mem _, ?_⟩
    rw [elo]
    exact (iff' _ (by omega)).mpr (by omega)
  · obtain ⟨i, hi', rfl⟩ := List.mem_iff_getElem.mp hy
    have ni : ¬ i < midK ts u x := fun z => by
      have := (iff' i hi').mpr z
      omega
    by_cases c : i = midK ts u x
    · subst c
      rw [ehi]
    · have := inj _ _ kl hi' (by omega)
      rw [← ehi] at this
      omega
  · obtain ⟨i, hi', rfl⟩ := List.mem_iff_getElem.mp hy
    have li := (iff' i hi').mp lt
    rw [elo]
    by_cases c : i = midK ts u x - 1
    · subst c
      exact ⟨Int.le_refl _, fun _ => rfl⟩
    · have := inj i (midK ts u x - 1) hi' (by omega) (by omega)
      exact ⟨by omega, fun z => by omega⟩
  · obtain ⟨i, hi', rfl⟩ := List.mem_iff_getElem.mp hy
    have ni : ¬ i < midK ts u x := fun z => by
      have := (iff' i hi').mpr z
      omega
    rw [ehi]
    by_cases c : i = midK ts u x
    · subst c
      exact ⟨Int.le_refl _, fun _ => rfl⟩
    · have := inj _ _ kl hi' (by omega)
      exact ⟨by omega, fun z => by omega⟩
end Far

namespace Far
open PySem PySem.Spec PyProof.Rows L2
open SX (S)
/-! ### all pairs, each once -/
theorem prs_half (ts : List Tie) : ∀ l : List Nm, 2 * ((prsR ts l).length : Int) = (l.length : Int) * ((l.length : Int) - 1)
  | [] => rfl
  | a :: r => by
    have ih := prs_half ts r
    show 2 * (((r.map (fun y => (dist ts a y, a, y)) ++ prsR ts r).length : Nat) : Int) = _
    rw [List.length_append, List.length_map, List.length_cons]
    grind
theorem prsR_in (ts : List Tie) : ∀ {l : List Nm} {x : Tri}, x ∈ prsR ts l → x.2.1 ∈ l ∧ x.2.2 ∈ l
  | [], x, h => by cases h
  | a :: r, x, h => by
    rcases List.mem_append.mp (show x ∈ r.map (fun y => (dist ts a y, a, y)) ++ prsR ts r from h) with z | z
    · obtain ⟨y, hy, rfl⟩ := List.mem_map.mp z
      exact ⟨List.mem_cons_self, List.mem_cons_of_mem _ hy⟩
    · obtain ⟨h1, h2⟩ := prsR_in ts z
      exact ⟨List.mem_cons_of_mem _ h1, List.mem_cons_of_mem _ h2⟩
theorem prsR_nd (ts : List Tie) : ∀ {l : List Nm}, l.Nodup → ((prsR ts l).map (·.2)).Nodup
  | [], _ => List.nodup_nil
  | a :: r, h => by
    obtain ⟨h1, h2⟩ := List.nodup_cons.mp h
    show ((r.map (fun y => (dist ts a y, a, y)) ++ prsR ts r).map (·.2)).Nodup
    rw [List.map_append, List.map_map]
    refine List.nodup_append.mpr ⟨List.pairwise_map.mpr (h2.imp fun {x y} ne e => ne (Prod.ext_iff.mp e).2), prsR_nd ts h2, fun x hx y hy e => ?_⟩
    obtain ⟨u, _, rfl⟩ := List.mem_map.mp hx
    obtain ⟨v, hv, rfl⟩ := List.mem_map.mp hy
    have := (prsR_in ts hv).1
    rw [← show a = v.2.1 from (Prod.ext_iff.mp e).1] at this
    exact h1 this
theorem prsR_lt (ts : List Tie) : ∀ {l : List Nm}, l.Nodup → ∀ {x : Tri}, x ∈ prsR ts l → l.idxOf x.2.1 < l.idxOf x.2.2
  | [], _, x, h => by cases h
  | a :: r, nd, x, h => by
    obtain ⟨h1, h2⟩ := List.nodup_cons.mp nd
    have st : ∀ y ∈ r, (a :: r).idxOf y = r.idxOf y + 1 := fun y hy => by
      have ne : a ≠ y := fun e => h1 (by rw [e]; exact hy)
      rw [List.idxOf_cons, beq_false_of_ne ne]
      rfl
    rcases List.mem_append.mp (show x ∈ r.map (fun y => (dist ts a y, a, y)) ++ prsR ts r from h) with z | z
    · obtain ⟨y, hy, rfl⟩ := List.mem_map.mp z
      show (a :: r).idxOf a < (a :: r).idxOf y
      rw [st y hy, List.idxOf_cons_self]
      omega
    · obtain ⟨k1, k2⟩ := prsR_in ts z
      rw [st _ k1, st _ k2]
      have := prsR_lt ts h2 z
      omega
/-! ### in falling order -/
theorem desc_at : ∀ {C : List Int}, C.Pairwise (fun a b => b ≤ a) → ∀ {i : Nat} {n : Int}, C[i]? = some n → C.countP (fun z => decide (z > n)) ≤ i ∧ i < C.countP (fun z => decide (z > n)) + C.countP (fun z => z == n)
  | [], _, i, n, h => by simp at h
  | a :: r, p, i, n, h => by
    obtain ⟨p1, p2⟩ := List.pairwise_cons.mp p
    have none : ∀ m : Int, a ≤ m → r.countP (fun z => decide (z > m)) = 0 := fun m hm => List.countP_eq_zero.mpr fun z hz => by
      have := p1 z hz
      simp only [decide_eq_true_eq]
      omega
    cases i with
    | zero =>
      have e : a = n := by simpa using h
      subst e
      rw [List.countP_cons, List.countP_cons, none a (Int.le_refl _)]
      simp
    | succ i =>
      have h : r[i]? = some n := by simpa using h
      obtain ⟨q1, q2⟩ := desc_at p2 h
      have le := p1 n (List.mem_of_getElem? h)
      rw [List.countP_cons, List.countP_cons]
      by_cases c : a > n
      · rw [if_pos (decide_eq_true c), if_neg (by simp only [beq_iff_eq]; omega)]
        omega
      · have e : a = n := by omega
        subst e
        rw [none a (Int.le_refl _)] at q1 q2 ⊢
        rw [if_neg (by simp), if_pos (by simp)]
        omega
/-- the stable order keeps those of one length as they stood -/
theorem keep_order (ps : List Tri) (m : Int) : (ps.mergeSort fun x y => decide (-x.1 ≤ -y.1)).filter (fun x => x.1 == m) = ps.filter fun x => x.1 == m := by
  have tr : ∀ a b c : Tri, (decide (-a.1 ≤ -b.1)) = true → (decide (-b.1 ≤ -c.1)) = true → (decide (-a.1 ≤ -c.1)) = true := fun a b c h1 h2 => by
    have h1 := of_decide_eq_true h1
    have h2 := of_decide_eq_true h2
    exact decide_eq_true (by omega)
  have to : ∀ a b : Tri, (decide (-a.1 ≤ -b.1) || decide (-b.1 ≤ -a.1)) = true := fun a b => by
    rw [Bool.or_eq_true, decide_eq_true_eq, decide_eq_true_eq]
    omega
  have pw : (ps.filter fun x => x.1 == m).Pairwise (fun x y => (decide (-x.1 ≤ -y.1)) = true) := List.pairwise_of_forall_mem_list fun x hx y hy => by
    have h1 := eq_of_beq (List.mem_filter.mp hx).2
    have h2 := eq_of_beq (List.mem_filter.mp hy).2
    exact decide_eq_true (by omega)
  have s := List.sublist_mergeSort (le := fun x y : Tri => decide (-x.1 ≤ -y.1)) tr to pw List.filter_sublist
  have s2 := s.filter fun x => x.1 == m
  rw [List.filter_filter] at s2
  have e : (ps.filter fun a => (a.1 == m) && (a.1 == m)) = ps.filter fun x => x.1 == m := List.filter_congr fun x _ => Bool.and_self _
  rw [e] at s2
  exact (s2.eq_of_length ((List.mergeSort_perm ps _).filter _).length_eq.symm).symm
section
variable {pl : List Nm} {ts : List Tie}
theorem far_perm (pl : List Nm) (ts : List Tie) : (byFar pl ts).Perm (pairsOf pl ts) := List.mergeSort_perm _ _
theorem far_falls (pl : List Nm) (ts : List Tie) : (byFar pl ts).Pairwise fun x y => y.1 ≤ x.1 := by
  have := List.pairwise_mergeSort (le := fun x y : Tri => decide (-x.1 ≤ -y.1)) (fun a b c h1 h2 => by
    have h1 := of_decide_eq_true h1
    have h2 := of_decide_eq_true h2
    exact decide_eq_true (by omega)) (fun a b => by
    rw [Bool.or_eq_true, decide_eq_true_eq, decide_eq_true_eq]
    omega) (pairsOf pl ts)
  exact this.imp fun {a b} h => by
    have := of_decide_eq_true h
    omega
theorem far_len (pl : List Nm) (ts : List Tie) : 2 * ((byFar pl ts).length : Int) = (pl.length : Int) * ((pl.length : Int) - 1) := by
  rw [(far_perm pl ts).length_eq, pairsOf_rec]
  exact prs_half ts pl
theorem nth_at {i : Nat} {x : Tri} (h : (byFar pl ts)[i]? = some x) : nthD pl ts (i : Int) = triD x := by
  unfold nthD
  rw [if_pos (Int.natCast_nonneg i), show ((i : Nat) : Int).toNat = i from rfl, h]
theorem nth_end {n : Int} (h : n = ((byFar pl ts).length : Nat)) : nthD pl ts n = .none := by
  subst h
  unfold nthD
  rw [if_pos (Int.natCast_nonneg _), show (((byFar pl ts).length : Nat) : Int).toNat = (byFar pl ts).length from rfl, List.getElem?_eq_none (Nat.le_refl _)]
theorem far_nd (nd : pl.Nodup) : ((byFar pl ts).map (·.2)).Nodup := by
  refine (((far_perm pl ts).map (·.2)).nodup_iff).mpr ?_
  rw [pairsOf_rec]
  exact prsR_nd ts nd
theorem far_mem (nd : pl.Nodup) {x : Tri} (h : x ∈ byFar pl ts) : x.2.1 ∈ pl ∧ x.2.2 ∈ pl ∧ x.1 = dist ts x.2.1 x.2.2 ∧ pl.idxOf x.2.1 < pl.idxOf x.2.2 := by
  have h := (far_perm pl ts).mem_iff.mp h
  obtain ⟨a, b, c⟩ := mem_pairs h
  rw [pairsOf_rec] at h
  exact ⟨a, b, c, prsR_lt ts nd h⟩
/-- how many are just so far apart, how many farther -/
theorem far_counts {i : Nat} {x : Tri} (h : (byFar pl ts)[i]? = some x) : ∃ a b : Nat, cntD (lensOf pl ts) x.1 = .tuple [.int (a : Int), .int (b : Int)] ∧ b ≤ i ∧ i < b + a := by
  have pm : ((byFar pl ts).map (·.1)).Perm (lensOf pl ts) := (far_perm pl ts).map _
  have pw : ((byFar pl ts).map (·.1)).Pairwise fun a b => b ≤ a := List.pairwise_map.mpr (far_falls pl ts)
  obtain ⟨h1, h2⟩ := desc_at pw (i := i) (n := x.1) (by rw [List.getElem?_map, h]; rfl)
  rw [pm.countP_eq] at h1 h2
  rw [pm.countP_eq] at h2
  refine ⟨(lensOf pl ts).countP fun z => z == x.1, (lensOf pl ts).countP fun z => decide (z > x.1), ?_, h1, h2⟩
  unfold cntD
  rw [List.countP_eq_length_filter (p := fun z => decide (z > x.1))]
/-- those as far as the first are the farthest -/
theorem far_first {x : Tri} {r : List Tri} (h : byFar pl ts = x :: r) : best (pairsOf pl ts) = x.1 ∧ farOf pl ts = (byFar pl ts).filter (fun y => y.1 == x.1) ∧ farD pl ts = triD x := by
  have pm := far_perm pl ts
  have fl := far_falls pl ts
  have hb : best (pairsOf pl ts) = x.1 := by
    refine best_is (List.mem_map.mpr ⟨x, pm.mem_iff.mp (by rw [h]; exact List.mem_cons_self), rfl⟩) fun y hy => ?_
    obtain ⟨z, hz, rfl⟩ := List.mem_map.mp hy
    have hz := pm.mem_iff.mpr hz
    rw [h] at hz fl
    rcases List.mem_cons.mp hz with e | e
    · rw [e]
      exact Int.le_refl _
    · exact (List.pairwise_cons.mp fl).1 z e
  have hf : farOf pl ts = (byFar pl ts).filter (fun y => y.1 == x.1) := by
    unfold farOf byFar
    rw [hb, keep_order]
  refine ⟨hb, hf, ?_⟩
  unfold farD
  rw [hf, h, List.filter_cons_of_pos (by simp)]
theorem far_none (h : byFar pl ts = []) : farD pl ts = .tuple [.int 0, .str (S (pl.headD [])), .str (S (pl.headD []))] ∧ allD pl ts = .tuple [] := by
  have e : pairsOf pl ts = [] := List.length_eq_zero_iff.mp (by rw [← (far_perm pl ts).length_eq, h]; rfl)
  have f := farOf_none e
  unfold farD allD
  rw [f]
  exact ⟨rfl, rfl⟩
/-! ### from any place the farthest one is an end of a farthest pair -/
/-- of two places of a way the nearer one stands on the way to the other -/
theorem IsTree.between {pl : List Nm} {ts : List Tie} (F : IsTree pl ts) {u x m l : Nm} (hu : u ∈ pl) (hx : x ∈ pl) (hm : m ∈ path ts u x) (hl : l ∈ path ts u x) (le : dist ts u m ≤ dist ts u l) : dist ts u m + dist ts m l = dist ts u l := by
  have w := F.the_way hu hx
  have pin : ∀ y ∈ path ts u x, y ∈ pl := fun y hy => w.inside (fun e he => ⟨(F.ties e he).1, (F.ties e he).2.1⟩) hu y hy
  obtain ⟨p1, p2, e⟩ := List.append_of_mem hl
  obtain ⟨L1, L2, w1, _, _⟩ := w.split e
  have e1 := F.is_way w1
  have rise := (w.rising F).1
  have hm' : m ∈ path ts u l := by
    rw [e1.1]
    rw [e] at hm
    rcases List.mem_append.mp hm with z | z
    · exact List.mem_append_left _ z
    · rcases List.mem_cons.mp z with z | z
      · exact z ▸ List.mem_append_right _ (List.mem_singleton.mpr rfl)
      · exfalso
        rw [e, List.map_append, List.map_cons] at rise
        have := (List.pairwise_cons.mp (List.pairwise_append.mp rise).2.1).1 _ (List.mem_map_of_mem z)
        omega
  exact (F.over hu (pin l hl) (pin m hm)).2.1.mpr hm'
theorem four (F : IsTree pl ts) {u x a b : Nm} (hu : u ∈ pl) (hx : x ∈ pl) (ha : a ∈ pl) (hb : b ∈ pl) (h1 : dist ts u a ≤ dist ts u x) (h2 : dist ts u b ≤ dist ts u x) (h3 : dist ts x a ≤ dist ts a b) (h4 : dist ts x b ≤ dist ts a b) : dist ts x a = dist ts a b ∨ dist ts x b = dist ts a b := by
  have sy := fun {p q : Nm} (hp : p ∈ pl) (hq : q ∈ pl) => (F.dist_symm hp hq).1
  -- where the ways of a, b and x meet
  obtain ⟨_, _, m, em⟩ := F.over ha hb hx
  have hm : m ∈ (path ts a b).filter (fun z => decide (z ∈ path ts a x) && decide (z ∈ path ts x b)) := by rw [em]; exact List.mem_singleton.mpr rfl
  obtain ⟨m1, m2⟩ := List.mem_filter.mp hm
  rw [Bool.and_eq_true, decide_eq_true_eq, decide_eq_true_eq] at m2
  have mp : m ∈ pl := (F.the_way ha hb).inside (fun e he => ⟨(F.ties e he).1, (F.ties e he).2.1⟩) ha m m1
  have e1 := (F.over ha hb mp).2.1.mpr m1
  have e2 := (F.over ha hx mp).2.1.mpr m2.1
  have e3 := (F.over hx hb mp).2.1.mpr m2.2
  -- the way from u to m leads on to two of the three
  obtain ⟨_, _, n, en⟩ := F.over ha hb hu
  have hn : n ∈ (path ts a b).filter (fun z => decide (z ∈ path ts a u) && decide (z ∈ path ts u b)) := by rw [en]; exact List.mem_singleton.mpr rfl
  obtain ⟨n1, n2⟩ := List.mem_filter.mp hn
  rw [Bool.and_eq_true, decide_eq_true_eq, decide_eq_true_eq] at n2
  have np : n ∈ pl := (F.the_way ha hb).inside (fun e he => ⟨(F.ties e he).1, (F.ties e he).2.1⟩) ha n n1
  have f1 := (F.over ha hb np).2.1.mpr n1
  have f2 := (F.over ha hu np).2.1.mpr n2.1
  have f3 := (F.over hu hb np).2.1.mpr n2.2
  have t1 := (F.over hu hx np).1
  have t2 := (F.over np hx mp).1
  have s1 := sy hx ha
  have s2 := sy ha hu
  have s3 := sy ha hx
  have s4 := sy mp hx
  have s5 := sy np hu
  have s6 := sy np mp
  rcases Int.le_total (dist ts a n) (dist ts a m) with c | c
  · have b1 := F.between ha hb n1 m1 c
    left
    omega
  · have b1 := F.between ha hb m1 n1 c
    right
    omega
end
end Far

namespace Far
open PySem PySem.Spec PyProof.Rows L2
/-! ### sets of different tuples of ints and texts, as a set makes them -/
section
variable {P : Program} {w : World} {K : Type} [DecidableEq K] {kd : KeyKind P w K} {A : Around} {E : Value → Shared → Prop} {s : Shared}
/-- the parts of such a tuple tell nothing of themselves -/
structure Pln (kd : KeyKind P w K) : Prop where
  cls : ∀ (n : Nat) (k : K) (v : Value), kd.is k v = true → ofAClassStatement n v = pure false
  hby : ∀ (n : Nat) (k : K) (v : Value), kd.is k v = true → ∃ c : Bool, hashByValue n v = pure c
theorem parts_of {ks : List K} {vs : List Value} (h : ItemsAre kd ks vs) : ∀ v ∈ vs, ∃ k, kd.is k v = true := by
  induction h with
  | nil => exact fun v hv => absurd hv List.not_mem_nil
  | cons a _ ih => exact fun v hv => (List.mem_cons.mp hv).elim (fun e => e ▸ ⟨_, a⟩) fun m => ih v m
theorem tcls (pk : Pln kd) {k : List K} {b : Addr} {Q : Bool → Shared → Prop} (x : IsTupleKey kd s.heap k b) (q : Q false s) : wpAny (model P w) A (ofAClassStatement 8 (.ref b)) Q E s := by
  have ty := x.typeIs
  obtain ⟨_, its, _, hb, _, dat, are⟩ := x
  unfold ofAClassStatement
  refine wpAny_bind (wpAny_typeOf ty ?_)
  dsimp only
  simp only [show (("tuple" : String) == "tuple") = true by decide, if_true, Bool.not_true, Bool.false_eq_true, if_false]
  try refine wpAny_bind (wpAny_pure ?_)
  try simp only [Bool.not_true, Bool.false_eq_true, if_false]
  show wpAny _ _ (seqItems? (.ref b) >>= _) _ _ s
  refine wpAny_bind (wpAny_seqItems hb dat ?_)
  dsimp only
  refine wpAny_bind ?_
  show wpAny _ _ (forIn its _ _) _ _ s
  rw [← Array.forIn_toList]
  refine wpAny_forIn_list _ (fun l r u => r.1 = none ∧ u = s ∧ ∀ v ∈ l, ∃ k, kd.is k v = true) _ ?_ ?_ _ _ ⟨rfl, rfl, parts_of are⟩
  · rintro v l r u ⟨e1, rfl, al⟩
    obtain ⟨k, hk⟩ := al v List.mem_cons_self
    rw [pk.cls _ k v hk]
    refine wpAny_bind (wpAny_pure ?_)
    simp only [Bool.false_eq_true, if_false]
    exact wpAny_pure ⟨rfl, rfl, fun y m => al y (List.mem_cons_of_mem _ m)⟩
  · rintro ⟨_, _⟩ u ⟨e1, rfl, _⟩
    simp only at e1
    subst e1
    exact wpAny_pure q
theorem thby (pk : Pln kd) {k : List K} {b : Addr} {Q : Bool → Shared → Prop} (x : IsTupleKey kd s.heap k b) (q : ∀ c, Q c s) : wpAny (model P w) A (hashByValue 8 (.ref b)) Q E s := by
  have ty := x.typeIs
  obtain ⟨_, its, _, hb, _, dat, are⟩ := x
  unfold hashByValue
  refine wpAny_bind (wpAny_specialOf ty F.slot_tuple_hash.lookup ?_)
  show wpAny _ _ (seqItems? (.ref b) >>= _) _ _ s
  refine wpAny_bind (wpAny_seqItems hb dat ?_)
  refine wpAny_bind ?_
  show wpAny _ _ (forIn its _ _) _ _ s
  rw [← Array.forIn_toList]
  refine wpAny_forIn_list _ (fun l r u => r.1 = none ∧ u = s ∧ ∀ v ∈ l, ∃ k, kd.is k v = true) _ ?_ ?_ _ _ ⟨rfl, rfl, parts_of are⟩
  · rintro v l r u ⟨e1, rfl, al⟩
    obtain ⟨k, hk⟩ := al v List.mem_cons_self
    obtain ⟨c, hc⟩ := pk.hby 7 k v hk
    rw [hc]
    refine wpAny_bind (wpAny_pure ?_)
    cases c with
    | true =>
      simp only [Bool.not_true, Bool.false_eq_true, if_false]
      exact wpAny_pure ⟨rfl, rfl, fun y m => al y (List.mem_cons_of_mem _ m)⟩
    | false =>
      simp only [Bool.not_false, if_true]
      first
        | exact wpAny_pure (wpAny_pure (q false))
        | exact wpAny_bind (wpAny_pure (wpAny_pure (wpAny_pure (q false))))
  · rintro ⟨_, _⟩ u ⟨e1, rfl, _⟩
    simp only at e1
    subst e1
    exact wpAny_pure (q true)
theorem tunseen (pk : Pln kd) {k : List K} {b : Addr} {Q : Bool → Shared → Prop} (x : IsTupleKey kd s.heap k b) {ys : List Value} (al0 : ∀ y ∈ ys, ∃ k' c, y = Value.ref c ∧ IsTupleKey kd s.heap k' c) (q : Q false s) : wpAny (model P w) A (searchCouldBeSeen (.ref b) ys) Q E s := by
  unfold searchCouldBeSeen
  refine wpAny_bind ?_
  refine wpAny_forIn_list _ (fun l r u => r.1 = none ∧ u = s ∧ ∀ y ∈ l, ∃ k' c, y = Value.ref c ∧ IsTupleKey kd s.heap k' c) _ ?_ ?_ _ _ ⟨rfl, rfl, al0⟩
  · rintro v l r u ⟨e1, rfl, al⟩
    obtain ⟨k', c, rfl, hc⟩ := al v List.mem_cons_self
    have al' := fun y m => al y (List.mem_cons_of_mem _ m)
    dsimp only
    by_cases hv : (b == c || (carriedByValue (.ref b) && carriedByValue (.ref c))) = true
    · exact wp_if_pos hv (wpAny_pure ⟨rfl, rfl, al'⟩)
    · refine wp_if_neg hv ?_
      refine wpAny_bind (wpAny_eqIsQuiet_tuple x ?_)
      simp only [Bool.not_true, Bool.false_eq_true, if_false]
      refine wpAny_bind (wpAny_eqIsQuiet_tuple hc ?_)
      simp only [Bool.not_true, Bool.false_eq_true, if_false]
      refine wpAny_bind (tcls pk x ?_)
      simp only [Bool.false_eq_true, if_false]
      refine wpAny_bind (tcls pk hc ?_)
      simp only [Bool.false_eq_true, if_false]
      exact wpAny_pure ⟨rfl, rfl, al'⟩
  · rintro ⟨_, _⟩ u ⟨e1, rfl, _⟩
    simp only at e1
    subst e1
    exact wpAny_pure q
/-! ### the set, so far -/
abbrev tH (kd : KeyKind P w K) (k : List K) : Int := tupleKeyHash kd k
abbrev rn (m : Nat) (h : Int) (c : Nat) : SetTable.Probe := L2.nth m (runAt m (SetTable.bits h % (m + 1)) (SetTable.bits h)) c
theorem rn_add (m : Nat) (h : Int) (c q : Nat) : L2.nth m (rn m h c) q = rn m h (c + q) := (nth_add m c _ q).symm
theorem rn_clean (m : Nat) (h : Int) (c : Nat) : (rn m h c).dummy = none := by
  have z : ∀ (n : Nat) (p : SetTable.Probe), p.dummy = none → (L2.nth m p n).dummy = none := fun n => by
    induction n with
    | zero => exact fun _ e => e
    | succ n ih => exact fun p e => ih (adv m p) (by unfold adv; split <;> exact e)
  exact z c _ rfl
def ent (kd : KeyKind P w K) (p : Addr × List K) : Int × Value := (tH kd p.2, .ref p.1)
structure Pile (kd : KeyKind P w K) (h : Heap) (a : Addr) (L : List (Addr × List K)) (es : Array (Int × Value)) (ep : Nat) (t : SetTable) : Prop where
  stands : ∃ o, h.get? a = some o ∧ o.ExactSet ∧ o.data = .set es ep t
  ents : es.toList = L.map (ent kd)
  tab : TabOk t (L.map fun p => tH kd p.2)
  keys : ∀ p ∈ L, IsTupleKey kd h p.2 p.1
  ld : w.params.followText "set-order" = true ∨ t.led = true
  air : L.length * 5 < t.mask * 3
variable {a : Addr} {L : List (Addr × List K)} {es : Array (Int × Value)} {ep : Nat} {t : SetTable}
theorem ents_size (e : es.toList = L.map (ent kd)) : es.size = L.length := by
  rw [← Array.length_toList, e, List.length_map]
theorem fits_of (e : es.toList = L.map (ent kd)) (T : TabOk t (L.map fun p => tH kd p.2)) (r : L.length ≤ t.mask) : t.fits es.size = true := by
  have h1 := T.sz
  rw [List.length_map] at h1
  have h2 := ents_size e
  unfold SetTable.fits SetTable.fill
  rw [T.dm, Bool.and_eq_true, beq_iff_eq, decide_eq_true_eq]
  exact ⟨by omega, by show t.place.size + 0 ≤ t.mask; omega⟩
theorem Pile.fit (R : Pile kd s.heap a L es ep t) : t.fits es.size = true := fits_of R.ents R.tab (by have := R.air; omega)
theorem ent_at (e : es.toList = L.map (ent kd)) {i : Nat} {p : Addr × List K} (h : L[i]? = some p) : es[i]? = some (ent kd p) := by
  rw [← Array.getElem?_toList, e, List.getElem?_map, h]
  rfl
theorem Pile.len_place (R : Pile kd s.heap a L es ep t) : t.place.toList.length = L.length := by
  have := R.tab.sz
  rw [List.length_map] at this
  rw [Array.length_toList, this]
/-- the search for a key that is not there ends at the first empty slot of its way -/
theorem seek (pk : Pln kd) (R : Pile kd s.heap a L es ep t) {x : Addr} {k : List K} (hx : IsTupleKey kd s.heap k x) (hu : A.units < cLine) (fresh : ∀ p ∈ L, p.2 ≠ k) {N : Nat} (N1 : N < 10 * SetTable.turns t.mask) (N2 : way t.mask (tH kd k) N ∉ t.place.toList) (N3 : ∀ c, c < N → way t.mask (tH kd k) c ∈ t.place.toList)
    {Q : SetFound → Shared → Prop} (q : Q (.free (way t.mask (tH kd k) N) false) s) : ∀ (f c : Nat) (st : Option SetTable.Probe), st.getD (t.probeStart (tH kd k)) = rn t.mask (tH kd k) c → c ≤ N → N - c < f → wpAny (model P w) A (setSearchFrom a (.ref x) (tH kd k) true f st) Q E s
  | 0, _, _, _, _, z => absurd z (Nat.not_lt_zero _)
  | f + 1, c, st, est, hc, hf => by
    obtain ⟨o, hob, hex, dat⟩ := R.stands
    rw [setSearchFrom_succ]
    refine wpAny_bind (wpAny_setState_of hob dat R.fit ?_)
    dsimp only
    refine wp_if_neg (by unfold SetTable.gaveWay; rw [mask_odd R.tab.mok]; decide) ?_
    try refine wpAny_bind (wpAny_pure ?_)
    have ej : ∀ q, (L2.nth t.mask (rn t.mask (tH kd k) c) q).j = way t.mask (tH kd k) (c + q) := fun q => congrArg SetTable.Probe.j (rn_add ..)
    have eN : c + (N - c) = N := by omega
    rcases go_spec t R.tab.ris R.tab.dm (fun i => (es[i]?.map (·.1)).getD 0) (tH kd k) (10 * SetTable.turns t.mask) (N - c) _ (rn_clean t.mask (tH kd k) c) (by omega) (fun q hq => by rw [ej]; exact N3 (c + q) (by omega)) (by rw [ej, eN]; exact N2) with ⟨q', i, q1, hi, _, _, hpr⟩ | ⟨_, hpr⟩
    · have hpr2 : t.probe (fun i => (es[i]?.map (·.1)).getD 0) (tH kd k) (st.getD (t.probeStart (tH kd k))) = some (.candidate (way t.mask (tH kd k) (c + q')) i (rn t.mask (tH kd k) (c + (q' + 1)))) := by
        rw [est, ← ej, ← rn_add]
        exact hpr
      rw [hpr2]
      dsimp only
      rw [ej] at hi
      have il : i < L.length := by
        rw [← R.len_place]
        exact (List.getElem?_eq_some_iff.mp hi).1
      obtain ⟨p, hp⟩ : ∃ p, L[i]? = some p := ⟨_, List.getElem?_eq_getElem il⟩
      have mp := List.mem_of_getElem? hp
      have ne := fresh p mp
      have live : t.slot (way t.mask (tH kd k) (c + q')) = .live i := slot_live R.tab.ris hi
      have more : wpAny (model P w) A (searchRest a (.ref x) (tH kd k) true f es t (way t.mask (tH kd k) (c + q')) i (rn t.mask (tH kd k) (c + (q' + 1)))) Q E s := by
        unfold searchRest
        rw [ent_at R.ents hp]
        unfold ent
        dsimp only
        refine wpAny_bind (wpAny_holding (wpAny_eqBool_tuple hu (R.keys p mp) hx ?_))
        refine wpAny_bind (wpAny_setState_of hob dat R.fit ?_)
        dsimp only
        refine wp_if_neg (by simp [ne]) ?_
        try refine wpAny_bind (wpAny_pure ?_)
        rw [sameMem]
        dsimp only
        simp only [if_true, live, ent_at R.ents hp]
        unfold ent
        refine wpAny_bind (wpAny_isSame_ref_self (wpAny_bind (wpAny_pure ?_)))
        simp only [if_true]
        refine wp_if_neg (by simp [ne]) ?_
        exact seek pk R hx hu fresh N1 N2 N3 q f (c + (q' + 1)) _ rfl (by omega) (by omega)
      by_cases hl : t.led = true
      · refine wp_if_neg (by simp [hl]) ?_
        try refine wpAny_bind (wpAny_pure ?_)
        exact more
      · refine wp_if_pos (by simp [hl]) ?_
        refine wpAny_bind (tunseen pk hx (fun y hy => ?_) ?_)
        · obtain ⟨e, he, ee⟩ := List.mem_map.mp hy
          have he1 : e ∈ es.toList := by
            have : e ∈ es ∧ e.1 = tH kd k := by simpa using he
            simpa using this.1
          rw [R.ents] at he1
          obtain ⟨p2, m2, e2⟩ := List.mem_map.mp he1
          exact ⟨p2.2, p2.1, by rw [← ee, ← e2]; rfl, R.keys p2 m2⟩
        · refine wp_if_neg (by decide) ?_
          try refine wpAny_bind (wpAny_pure ?_)
          exact more
    · have hpr2 : t.probe (fun i => (es[i]?.map (·.1)).getD 0) (tH kd k) (st.getD (t.probeStart (tH kd k))) = some (.empty (way t.mask (tH kd k) N) none) := by
        have e2 : way t.mask (tH kd k) N = (L2.nth t.mask (rn t.mask (tH kd k) c) (N - c)).j := by rw [ej, eN]
        rw [est, e2]
        exact hpr
      rw [hpr2]
      dsimp only
      exact wpAny_pure q
theorem find_free (pk : Pln kd) (R : Pile kd s.heap a L es ep t) {x : Addr} {k : List K} (hx : IsTupleKey kd s.heap k x) (hu : A.units < cLine) (fresh : ∀ p ∈ L, p.2 ≠ k) {Q : SetFound → Shared → Prop}
    (q : ∀ N, way t.mask (tH kd k) N ∉ t.place.toList → (∀ c, c < N → way t.mask (tH kd k) c ∈ t.place.toList) → Q (.free (way t.mask (tH kd k) N) false) s) : wpAny (model P w) A (setSearch a (.ref x) (tH kd k) true) Q E s := by
  have r := R.air
  obtain ⟨N, N1, N2, N3⟩ := R.tab.first (by rw [List.length_map]; omega) (tH kd k)
  have big : N < 100000 := by
    have : 10 * SetTable.turns t.mask ≤ 1420 := by
      unfold SetTable.turns
      rcases R.tab.mok with e | e | e <;> omega
    omega
  unfold setSearch
  exact seek pk R hx hu fresh N1 N2 N3 (q N N2 N3) 100000 0 none rfl (Nat.zero_le _) (by omega)
end
end Far

namespace Far
open PySem PySem.Spec PyProof.Rows L2
section
variable {P : Program} {w : World} {K : Type} [DecidableEq K] {kd : KeyKind P w K} {A : Around} {E : Value → Shared → Prop} {s : Shared}
/-- a tuple stands on when the set is written -/
theorem key_on {h h' : Heap} {k : List K} {a b : Addr} {o : Obj} {es : Array (Int × Value)} {ep : Nat} {t : SetTable} (x : IsTupleKey kd h k b) (hob : h.get? a = some o) (dat : o.data = .set es ep t) (sb : Heap.SameBut a h h') : IsTupleKey kd h' k b := by
  obtain ⟨u, its, n, hu, cl, du, are⟩ := x
  refine ⟨u, its, n, (sb.2 b fun z => ?_).trans hu, cl, du, are⟩
  subst z
  have e : u = o := Option.some.inj (hu.symm.trans hob)
  rw [e, dat] at du
  cases du
theorem key_all {h h' : Heap} {k : List K} {b : Addr} (x : IsTupleKey kd h k b) (on : ∀ c o, h.get? c = some o → h'.get? c = some o) : IsTupleKey kd h' k b := by
  obtain ⟨u, its, n, hu, r⟩ := x
  exact ⟨u, its, n, on b u hu, r⟩
theorem put_in {α : Type} (L : List α) (p : Nat) (x : α) : (L.take p ++ x :: L.drop p).Perm (x :: L) := by
  have := @List.perm_middle α x (L.take p) (L.drop p)
  rwa [List.take_append_drop] at this
/-- the entries in another order are those of the keys in that order -/
theorem in_order (L : List (Addr × List K)) (es : Array (Int × Value)) (ord : Array Nat) (e : es.toList = L.map (ent kd)) (pm : ord.toList.Perm (List.range L.length)) :
    ∃ M : List (Addr × List K), (ord.filterMap (es[·]?)).toList = M.map (ent kd) ∧ M.Perm L ∧ (M.map fun p => tH kd p.2) = ord.toList.map fun i => (es.map (·.1)).getD i 0 := by
  have walk : ∀ l : List Nat, (∀ i ∈ l, i < L.length) → ∃ M : List (Addr × List K), l.filterMap (fun i => es[i]?) = M.map (ent kd) ∧ M = l.filterMap (fun i => L[i]?) ∧ (M.map fun p => tH kd p.2) = l.map fun i => (es.map (·.1)).getD i 0 := fun l => by
    induction l with
    | nil => exact fun _ => ⟨[], rfl, rfl, rfl⟩
    | cons i l ih =>
      intro al
      obtain ⟨M, h1, h2, h3⟩ := ih fun j m => al j (List.mem_cons_of_mem _ m)
      obtain ⟨p, hp⟩ : ∃ p, L[i]? = some p := ⟨_, List.getElem?_eq_getElem (al i List.mem_cons_self)⟩
      have ep := ent_at e hp
      refine ⟨p :: M, by rw [List.filterMap_cons_some ep, h1]; rfl, by rw [List.filterMap_cons_some hp, ← h2], ?_⟩
      rw [List.map_cons, List.map_cons, h3]
      have : (es.map (·.1))[i]? = some (tH kd p.2) := by
        rw [Array.getElem?_map, ep]
        rfl
      rw [Array.getD_eq_getD_getElem?, this]
      rfl
  obtain ⟨M, h1, h2, h3⟩ := walk ord.toList fun i m => List.mem_range.mp (pm.mem_iff.mp m)
  have all : ∀ n, n ≤ L.length → (List.range n).filterMap (fun i => L[i]?) = L.take n := fun n => by
    induction n with
    | zero => exact fun _ => rfl
    | succ n ih =>
      intro hn
      rw [List.range_succ, List.filterMap_append, ih (by omega), List.take_add_one, List.getElem?_eq_getElem (by omega : n < L.length)]
      simp [List.getElem?_eq_getElem (by omega : n < L.length)]
  refine ⟨M, by rw [Array.toList_filterMap]; exact h1, ?_, h3⟩
  rw [h2]
  have := pm.filterMap fun i => L[i]?
  rwa [all L.length (Nat.le_refl _), List.take_length] at this
variable {a : Addr} {L : List (Addr × List K)} {es : Array (Int × Value)} {ep : Nat} {t : SetTable}
/-- a larger table -/
theorem grow_to {o : Obj} (hob : s.heap.get? a = some o) (hex : o.ExactSet) (dat : o.data = .set es ep t) (ents : es.toList = L.map (ent kd)) (T0 : TabOk t (L.map fun p => tH kd p.2)) (fl : L.length ≤ t.mask) (keys : ∀ p ∈ L, IsTupleKey kd s.heap p.2 p.1) (ld : w.params.followText "set-order" = true ∨ t.led = true) {want M : Nat}
    (m1 : SetTable.sizeAbove want - 1 = M) (m2 : MaskOk M) (m3 : SetTable.sizeAbove want ≤ 128) (air : L.length * 5 < M * 3) {Q : Unit → Shared → Prop}
    (q : ∀ h' L' es' ep' t', Heap.SameBut a s.heap h' → Pile kd h' a L' es' ep' t' → L'.Perm L → Q () { s with heap := h' }) : wpAny (model P w) A (setRelay a want) Q E s := by
  have sz := ents_size ents
  obtain ⟨t', ord, e1, pm, T, f1, f2, _, _⟩ := relaid_ok t (hs := es.map (·.1)) (wanted := want) m1 m2 (by rw [Array.size_map, sz]; omega)
  rw [Array.size_map, sz] at pm
  obtain ⟨L2, g1, g2, g3⟩ := in_order L es ord ents pm
  rw [← g3] at T
  have sz2 : (ord.filterMap (es[·]?)).size = es.size := by rw [ents_size g1, g2.length_eq, sz]
  rw [setRelay_eq]
  refine wpAny_bind (wpAny_setState_of hob dat (fits_of ents T0 fl) ?_)
  dsimp only
  refine wp_if_neg (by rw [sizeLine_eq]; omega) ?_
  try refine wpAny_bind (wpAny_pure ?_)
  rw [e1]
  dsimp only
  refine wpAny_bind ?_
  refine wp_if_neg (by rw [sz2]; simp) ?_
  try refine wpAny_bind (wpAny_pure ?_)
  refine wpAny_pure ?_
  dsimp only
  refine wpAny_storeSet_of hob dat ?_ (by rw [sz2, sz, sizeLine_eq]; omega)
  have sb : Heap.SameBut a s.heap (s.heap.update a (Obj.putSet (ord.filterMap (es[·]?)) t')) := Heap.SameBut.update ..
  exact q _ L2 _ (ep + 1) t' sb ⟨⟨_, store_at hob dat, ⟨hex.1, hex.2.1, hex.2.2⟩, rfl⟩, g1, T, fun p m => key_on (keys p (g2.mem_iff.mp m)) hob dat sb, by rw [f2]; exact ld, by rw [g2.length_eq, f1]; exact air⟩ g2
theorem if_bind {α : Type} {M : Model} {c : Prop} [Decidable c] {m1 m2 : Sem α} {f : α → Sem Bool} {Q : Bool → Shared → Prop} (h : wpAny M A (if c then m1 else m2) (fun x u => wpAny M A (f x) Q E u) E s) : wpAny M A (if c then m1 >>= f else m2 >>= f) Q E s := by
  by_cases z : c
  · rw [if_pos z] at h ⊢
    exact wpAny_bind h
  · rw [if_neg z] at h ⊢
    exact wpAny_bind h
/-- one more -/
theorem put_one (pk : Pln kd) (R : Pile kd s.heap a L es ep t) {x : Addr} {k : List K} (hx : IsTupleKey kd s.heap k x) (hu : A.units < cLine) (fresh : ∀ p ∈ L, p.2 ≠ k) (few : L.length < 70) {Q : Bool → Shared → Prop}
    (q : ∀ b h' L' es' ep' t', Heap.SameBut a s.heap h' → Pile kd h' a L' es' ep' t' → L'.Perm ((x, k) :: L) → Q b { s with heap := h' }) : wpAny (model P w) A (setAddHashed a (.ref x) (tH kd k)) Q E s := by
  obtain ⟨o, hob, hex, dat⟩ := R.stands
  have sz := ents_size R.ents
  have air := R.air
  unfold setAddHashed
  refine wpAny_holding ?_
  rw [show (100000 : Nat) = 99999 + 1 from rfl, setAddHashedIn_succ]
  refine wpAny_bind (wpAny_setState_of hob dat R.fit ?_)
  dsimp only
  refine wp_if_neg (by simp [byScan, Value.scannable]) ?_
  try refine wpAny_bind (wpAny_pure ?_)
  refine wpAny_bind (find_free pk R hx hu fresh fun N N2 N3 => ?_)
  dsimp only
  refine wpAny_bind (wpAny_setState_of hob dat R.fit ?_)
  dsimp only
  obtain ⟨u1, u2, u3, u4, u5, _, _, _, u9⟩ := R.tab.put N2 N3
  generalize t.put (way t.mask (tH kd k) N) = pt at u1 u3 u4 u5 u9 ⊢
  obtain ⟨t0, j⟩ := pt
  dsimp only at u1 u3 u4 u5 u9 ⊢
  subst u1
  have plain : ∀ c : Bool, ∃ t1 : SetTable, (if c = true then t0 else { t0 with plain := false }) = t1 ∧ (∀ hs, TabOk t0 hs → TabOk t1 hs) ∧ t1.mask = t0.mask ∧ t1.led = t0.led ∧ t1.fill = t0.fill := fun c => by
    cases c with
    | true => exact ⟨_, rfl, fun _ T => T, rfl, rfl, rfl⟩
    | false => exact ⟨_, rfl, fun _ T => ⟨T.ris, T.dm, T.sz, T.mok, T.bd, T.reach⟩, rfl, rfl, rfl⟩
  have both : ∀ (c : Bool) (Q' : Bool → Shared → Prop), (∀ c, Q' c s) → wpAny (model P w) A (if c = true then hashByValue 8 (.ref x) else pure true) Q' E s := fun c Q' z => by
    cases c with
    | true => exact wp_if_pos rfl (thby pk hx z)
    | false => exact wp_if_neg (by decide) (wpAny_pure (z true))
  refine if_bind (both _ _ fun c => ?_)
  obtain ⟨t1, et, w1, w2, w3, w4⟩ := plain c
  rw [et]
  have u3 := w1 _ u3
  rw [← w2] at u4
  rw [← w3] at u5
  rw [← w4] at u9
  clear et w1 w2 w3 w4 plain both
  generalize SetTable.below t.place (way t.mask (tH kd k) N) = j at u2 u3 ⊢
  have pm := put_in L j (x, k)
  have ll : (L.take j ++ (x, k) :: L.drop j).length = L.length + 1 := pm.length_eq
  have en : (SetTable.insertAt es j (tH kd k, Value.ref x)).toList = (L.take j ++ (x, k) :: L.drop j).map (ent kd) := by
    rw [SetTable.toList_insertAt, R.ents, List.map_append, List.map_cons, List.map_take, List.map_drop]
    rfl
  have hh : (L.map fun p => tH kd p.2).take j ++ tH kd k :: (L.map fun p => tH kd p.2).drop j = (L.take j ++ (x, k) :: L.drop j).map fun p => tH kd p.2 := by rw [List.map_append, List.map_cons, List.map_take, List.map_drop]
  rw [hh] at u3
  have sz1 := ents_size en
  generalize SetTable.insertAt es j (tH kd k, Value.ref x) = es1 at en sz1 ⊢
  generalize L.take j ++ (x, k) :: L.drop j = L1 at pm ll u3 en sz1
  refine wpAny_bind (wpAny_storeSet_of hob dat ?_ (by rw [sz1, ll, sizeLine_eq]; omega))
  have sb : Heap.SameBut a s.heap (s.heap.update a (Obj.putSet es1 t1)) := Heap.SameBut.update ..
  have hob1 := store_at (es' := es1) (t' := t1) hob dat
  generalize s.heap.update a (Obj.putSet es1 t1) = h1 at sb hob1 ⊢
  have keys1 : ∀ p ∈ L1, IsTupleKey kd h1 p.2 p.1 := fun p m => by
    rcases List.mem_cons.mp (pm.mem_iff.mp m) with e | m
    · rw [e]
      exact key_on hx hob dat sb
    · exact key_on (R.keys p m) hob dat sb
  have ld1 : w.params.followText "set-order" = true ∨ t1.led = true := by rw [u5]; exact R.ld
  rw [List.length_map] at u9
  by_cases full : t1.tooFull = true
  · first
      | (refine wpAny_bind ?_; refine wp_if_pos (by simp [full]) ?_)
      | (refine wp_if_pos (by simp [full]) ?_; refine wpAny_bind ?_)
    have f5 : (L.length + 1) * 5 ≥ t1.mask * 3 := by
      have := full
      unfold SetTable.tooFull at this
      rwa [decide_eq_true_eq, u9] at this
    rw [sz]
    have go : ∀ M, SetTable.sizeAbove (SetTable.grown (L.length + 1)) - 1 = M → MaskOk M → SetTable.sizeAbove (SetTable.grown (L.length + 1)) ≤ 128 → (L.length + 1) * 5 < M * 3 → wpAny (model P w) A (setRelay a (SetTable.grown (L.length + 1))) (fun _ s' => wpAny (model P w) A (pure true) Q E s') E { s with heap := h1 } := fun M a1 a2 a3 a4 => by
      refine grow_to (s := { s with heap := h1 }) hob1 ⟨hex.1, hex.2.1, hex.2.2⟩ rfl en u3 (by rw [ll, u4]; rcases R.tab.mok with e | e | e <;> omega) keys1 ld1 a1 a2 a3 (by rw [ll]; exact a4) fun h2 M2 es2 ep2 t2 sb2 R2 pm2 => ?_
      exact wpAny_pure (q true h2 M2 es2 ep2 t2 (sb.trans sb2) R2 (pm2.trans pm))
    rw [u4] at f5
    rcases R.tab.mok with e | e | e
    · have : L.length = 4 := by rw [e] at f5 air; omega
      exact go 31 (by rw [this, size_20]) (.inr (.inl rfl)) (by rw [this, size_20]; decide) (by omega)
    · have : L.length = 18 := by rw [e] at f5 air; omega
      exact go 127 (by rw [this, size_76]) (.inr (.inr rfl)) (by rw [this, size_76]; decide) (by omega)
    · rw [e] at f5
      omega
  · first
      | refine wp_if_neg (by simp [full]) ?_
      | (refine wpAny_bind ?_; refine wp_if_neg (by simp [full]) ?_; refine wpAny_pure ?_)
    refine wpAny_pure (q true h1 L1 es1 (ep + 1) t1 sb ⟨⟨_, hob1, ⟨hex.1, hex.2.1, hex.2.2⟩, rfl⟩, en, u3, keys1, ld1, ?_⟩ pm)
    have := full
    unfold SetTable.tooFull at this
    rw [decide_eq_true_eq, u9] at this
    rw [ll]
    omega
end
end Far

namespace Far
open PySem PySem.Spec PyProof.Rows L2
section
variable {P : Program} {w : World} {K : Type} [DecidableEq K] {kd : KeyKind P w K} {A : Around} {R : Result → Shared → Prop} {I a : Addr} {fp wr : List Addr} {n : Nat} {Pv : Nat → Value → Prop} {St : Nat → Heap → Prop}
theorem Pile.on {h h' : Heap} {L : List (Addr × List K)} {es : Array (Int × Value)} {ep : Nat} {t : SetTable} (R : Pile kd h a L es ep t) (ha : ∀ o, h.get? a = some o → h'.get? a = some o) (hk : ∀ p ∈ L, IsTupleKey kd h' p.2 p.1) : Pile kd h' a L es ep t := by
  obtain ⟨o, z, r⟩ := R.stands
  exact ⟨⟨o, ha o z, r⟩, R.ents, R.tab, hk, R.ld, R.air⟩
theorem fill_T (pk : Pln kd) (W : WalksS P w A.in1 I fp wr (fun x y => y = x) n Pv (fun i s => St i s.heap)) (af : a ∉ fp) {ks : List (Addr × List K)} (nd : (ks.map (·.2)).Nodup) (hn : ks.length = n) (few : n ≤ 70) (hv : ∀ i v, Pv i v → ∃ p, ks[i]? = some p ∧ v = .ref p.1)
    {h0 : Heap} (hk : ∀ p ∈ ks, IsTupleKey kd h0 p.2 p.1) (a0 : h0.get? a = none) (w0 : ∀ b ∈ wr, h0.get? b = none) (hu : A.in1.units < cLine) :
    ∀ (k i : Nat) (s0 s : Shared), n - i = k → i ≤ n → St i s.heap → Moved (a :: wr) (fun x y => y = x) s0 s → (∀ b o, h0.get? b = some o → s.heap.get? b = some o) → (∃ L es ep t, Pile kd s.heap a L es ep t ∧ L.Perm (ks.take i)) →
      (∀ s', Moved (a :: wr) (fun x y => y = x) s0 s' → (∃ L es ep t, Pile kd s'.heap a L es ep t ∧ L.Perm (ks.take n)) → R (.ok (.ret .none)) s') →
      codeAny (model P w) A (.builtin "set.update.loop" ⟨[.ref a, .ref I], []⟩) R s := by
  have aw : a ∉ wr := fun h => af (W.sub _ h)
  have sub : ∀ b ∈ wr, b ∈ a :: wr := fun b hb => List.mem_cons_of_mem _ hb
  have tr : ∀ x y z : Array GenState, y = x → z = y → z = x := fun _ _ _ e1 e2 => e2.trans e1
  have on : ∀ {s s' : Shared}, Moved wr (fun x y => y = x) s s' → (∀ b o, h0.get? b = some o → s.heap.get? b = some o) → ∀ b o, h0.get? b = some o → s'.heap.get? b = some o := fun m z b o e => m.heap b o (fun q => by rw [w0 b q] at e; cases e) (z b o e)
  have stay : ∀ {s s' : Shared} {i : Nat}, Moved wr (fun x y => y = x) s s' → (∀ b o, h0.get? b = some o → s.heap.get? b = some o) → (∃ L es ep t, Pile kd s.heap a L es ep t ∧ L.Perm (ks.take i)) → ∃ L es ep t, Pile kd s'.heap a L es ep t ∧ L.Perm (ks.take i) := fun m z ⟨L, es, ep, t, pi, pm⟩ =>
    ⟨L, es, ep, t, pi.on (fun o e => m.heap a o aw e) fun p hp => key_all (hk p (List.mem_of_mem_take (pm.mem_iff.mp hp))) (on m z), pm⟩
  intro k
  induction k with
  | zero =>
    intro i s0 s ek hi st m0 z pi q
    have e : i = n := by omega
    subst e
    refine codeAny_builtin PyProof.Rows.F.entry_set_update_loop ?_
    rw [Around.under_plainId PyProof.Rows.F.plain_set_update_loop _]
    show wpAny _ A.in1 (pyNext (.ref I) >>= _) _ _ s
    refine wpAny_bind (W.done s _ _ st fun s' hm => ?_)
    show wpAny _ A.in1 (ret Value.none) _ _ s'
    exact wpAny_pure (q s' (Moved.trans tr m0 (hm.mono sub)) (stay hm z pi))
  | succ k ih =>
    intro i s0 s ek hi st m0 z pi q
    have lt : i < n := by omega
    have ltx : i < ks.length := by omega
    refine codeAny_builtin PyProof.Rows.F.entry_set_update_loop ?_
    rw [Around.under_plainId PyProof.Rows.F.plain_set_update_loop _]
    show wpAny _ A.in1 (pyNext (.ref I) >>= _) _ _ s
    refine wpAny_bind (W.item i s _ _ lt st fun v s' hp st' hm => ?_)
    obtain ⟨p, ep, rfl⟩ := hv i v hp
    have z' := on hm z
    obtain ⟨L, es, e1, t, pi', pm⟩ := stay hm z pi
    have hx : IsTupleKey kd s'.heap p.2 p.1 := key_all (hk p (List.mem_of_getElem? ep)) z'
    have fresh : ∀ r ∈ L, r.2 ≠ p.2 := fun r hr e => by
      have hr := pm.mem_iff.mp hr
      obtain ⟨j, hj, ej⟩ := List.mem_take_iff_getElem.mp hr
      have ei : ks[i] = p := by
        rw [List.getElem?_eq_getElem ltx] at ep
        exact Option.some.inj ep
      have := (List.getElem_inj (xs := ks.map (·.2)) (i := j) (j := i) (h₀ := by rw [List.length_map]; omega) (h₁ := by rw [List.length_map]; exact ltx) nd).mp (by rw [List.getElem_map, List.getElem_map, ej, ei]; exact e)
      omega
    have ll : L.length = i := by rw [pm.length_eq, List.length_take]; omega
    show wpAny _ A.in1 (holding [Value.ref p.1] (setAdd a (.ref p.1)) >>= _) _ _ s'
    refine wpAny_bind (wpAny_holding ?_)
    unfold setAdd
    refine wpAny_holding (wpAny_bind (wpAny_pyHash_tuple hu hx ?_))
    refine put_one (s := { s' with toks := s'.toks + (p.2.length + 1) }) pk pi' hx hu fresh (by omega) fun b h' L' es' ep' t' sb pi2 pm2 => ?_
    have pm3 : L'.Perm (ks.take (i + 1)) := by
      rw [List.take_add_one, ep]
      exact pm2.trans ((pm.cons _).trans (List.perm_append_comm (l₁ := [p]) (l₂ := ks.take i)))
    have z2 : ∀ b o, h0.get? b = some o → h'.get? b = some o := fun b o e => (sb.2 b fun y => by rw [y, a0] at e; cases e).trans (z' b o e)
    refine wpAny_pure ⟨plainId_quiet PyProof.Rows.F.plain_set_update_loop _, ih (i + 1) s0 _ (by omega) lt (W.frame _ s' _ _ st' (Nat.le_add_right _ _) fun b hb o e => ?_) ?_ z2 ⟨L', es', ep', t', pi2, pm3⟩ q⟩
    · rw [sb.2 b (fun h : b = a => af (by rw [← h]; exact hb))]
      exact e
    · refine (Moved.trans tr m0 (hm.mono sub)).then_heap (Nat.le_add_right _ _) fun b o hb e => ?_
      rw [sb.2 b (fun h : b = a => hb (by rw [h]; exact List.mem_cons_self))]
      exact e
end
section
variable {prog : Program} {w : World} {K : Type} [DecidableEq K] {kd : KeyKind prog w K} {A : Around} {E : Value → Shared → Prop} {s : Shared}
theorem pile_new {h : Heap} {a : Addr} (z : h.get? a = some { cls := .type "set", dict := none, data := .set #[] 0 (.fresh 0 0 (!w.params.followText "set-order")) }) : Pile kd h a [] #[] 0 (.fresh 0 0 (!w.params.followText "set-order")) where
  stands := ⟨_, z, ⟨rfl, rfl, rfl⟩, rfl⟩
  ents := rfl
  tab := ⟨List.Pairwise.nil, rfl, rfl, .inl rfl, fun x hx => absurd hx List.not_mem_nil, fun i h j hi => by simp at hi⟩
  keys := fun p hp => absurd hp List.not_mem_nil
  ld := by
    show _ ∨ (!w.params.followText "set-order") = true
    by_cases c : w.params.followText "set-order" = true
    · exact .inl c
    · exact .inr (by simp [c])
  air := by
    show 0 * 5 < 7 * 3
    omega
/-- set(xs), a list of different tuples -/
theorem set_madeT (pk : Pln kd) {l : Addr} {items : Array Value} {ks : List (Addr × List K)} {Q : Value → Shared → Prop} (hh : A.handled = none) (hl : s.heap.IsList l items) (hi : items.toList = ks.map fun p => Value.ref p.1) (hk : ∀ p ∈ ks, IsTupleKey kd s.heap p.2 p.1) (nd : (ks.map (·.2)).Nodup) (few : ks.length ≤ 70) (hu : A.units + 3 < cLine)
    (q : ∀ (h' : Heap) (tk : Nat) L es ep t, Pile kd h' s.heap.objs.size L es ep t → L.Perm ks → (∀ b o, b < s.heap.objs.size → s.heap.get? b = some o → h'.get? b = some o) → Q (.ref s.heap.objs.size) { s with heap := h', toks := tk }) :
    wpAny (model prog w) A (call (.type "set") [.ref l]) Q E s := by
  obtain ⟨c, tl, hmro⟩ := PySem.F.called_set.mro
  have made := PySem.F.called_set.made
  have sub := PySem.F.called_set.sub
  have c1 := PySem.F.called_set.notType
  have c2 := PySem.F.called_set.canCreate
  have c3 := PySem.F.typeCall_set_1 (.ref l)
  have en : ks.length = items.size := by rw [← Array.length_toList, hi, List.length_map]
  obtain ⟨led, eled⟩ : ∃ led : Bool, led = !w.params.followText "set-order" := ⟨_, rfl⟩
  refine wpAny_call (codeAny_of_tree ?_)
  show wpAny _ _ (callAny (.type "set") _) _ _ _
  refine wpAny_pure ⟨Code.quiet_builtin _ (by decide +kernel), codeAny_builtin PySem.F.entry_type_call ?_⟩
  rw [Around.under_plain (weight_type_call_type "set" [.ref l] []) rfl]
  repeat (any_goals (first | assumption | wp_step))
  refine codeAny_mono (code_set_led1 (.ref l) (E := E) (Q₁ := fun obj s₁ => obj = .ref s.heap.objs.size ∧ s₁ = { s with heap := s.heap.push { cls := .type "set", dict := none, data := .set #[] 0 (.fresh 0 0 led) } }) ⟨rfl, by rw [eled]⟩) fun r s₁ hr => ?_
  match r, hr with
  | .error _, hr => exact hr
  | .ok .next, hr => exact hr.elim
  | .ok .brk, hr => exact hr.elim
  | .ok .cont, hr => exact hr.elim
  | .ok (.ret obj), hr =>
    obtain ⟨rfl, rfl⟩ := hr
    have S0 : (s.heap.push ({ cls := .type "set", dict := none, data := .set #[] 0 (.fresh 0 0 led) } : Obj)).get? s.heap.objs.size = some ({ cls := .type "set", dict := none, data := .set #[] 0 (.fresh 0 0 led) } : Obj) := Heap.get?_push_size _ rfl
    have ty : Shared.TypeIs { s with heap := s.heap.push ({ cls := .type "set", dict := none, data := .set #[] 0 (.fresh 0 0 led) } : Obj) } (.ref s.heap.objs.size) "set" := ⟨_, S0, rfl⟩
    have li := PySem.F.called_set.init.lookup
    have bi := PySem.F.called_set.init.bind (.ref s.heap.objs.size)
    repeat (any_goals (first | assumption | wp_step))
    refine codeAny_mono (codeAny_call_builtin (R := wants (fun r s₂ => r = .none ∧ Q (.ref s.heap.objs.size) s₂) E) PySem.F.called_set.init.plain PySem.F.entry_set_init (check_set_init_1 ty ?_)) fun r₂ s₂ hr₂ => ?_
    · obtain ⟨⟨oc, od, oda, osl⟩, ho, hc, nl, hd⟩ := id hl
      simp only at hc hd
      subst hc hd
      have ho2 : (s.heap.push ({ cls := .type "set", dict := none, data := .set #[] 0 (.fresh 0 0 led) } : Obj)).get? l = some { cls := .type "list", dict := od, data := .seq items nl, slots := osl } := Heap.get?_push_of_some _ ho
      have ss1 := F.sub_list_set
      have ss2 := F.sub_list_frozenset
      have nd1 : (Value.type "list" == Value.type "dict") = false := by decide
      have hl1 : (s.heap.push ({ cls := .type "set", dict := none, data := .set #[] 0 (.fresh 0 0 led) } : Obj)).IsList l items := ⟨_, ho2, rfl, nl, rfl⟩
      have ll : l < s.heap.objs.size := Heap.lt_size ho
      unfold Builtin.«set.__init__» noKeywords Builtin.Frozenset.updateFrom
      generalize hPI : pyIter = PI
      wp_walk
      subst hPI
      refine wpAny_pyIter_list hl1 ?_
      refine wpAny_bind (wpAny_runValue ?_)
      have sz1 : (s.heap.push ({ cls := .type "set", dict := none, data := .set #[] 0 (.fresh 0 0 led) } : Obj)).objs.size = s.heap.objs.size + 1 := Heap.size_push ..
      have h3 : A.in1.in1.in1.handled = none := by simp [hh]
      have li2 : l ≠ (s.heap.push ({ cls := .type "set", dict := none, data := .set #[] 0 (.fresh 0 0 led) } : Obj)).objs.size := by rw [sz1]; exact Nat.ne_of_lt (Nat.lt_succ_of_lt ll)
      have sf : s.heap.objs.size ∉ [(s.heap.push ({ cls := .type "set", dict := none, data := .set #[] 0 (.fresh 0 0 led) } : Obj)).objs.size, l] := by
        rw [sz1]
        intro hm
        rcases List.mem_cons.mp hm with z | z
        · exact absurd z (Nat.ne_of_lt (Nat.lt_succ_self _))
        · exact absurd (List.mem_singleton.mp z) (Nat.ne_of_gt ll)
      have at0 : ((s.heap.push ({ cls := .type "set", dict := none, data := .set #[] 0 (.fresh 0 0 led) } : Obj)).push { cls := .type "list_iterator", data := .fields #[.ref l, .int 0 0] }).get? s.heap.objs.size = some ({ cls := .type "set", dict := none, data := .set #[] 0 (.fresh 0 0 led) } : Obj) := Heap.get?_push_of_some _ S0
      have void : ∀ b, s.heap.objs.size ≤ b → s.heap.get? b = none := fun b hb => by
        cases e : s.heap.get? b with
        | none => rfl
        | some o => exact absurd (Heap.lt_size e) (Nat.not_lt.mpr hb)
      refine fill_T pk (St := fun i h => h.IsListIter (s.heap.push ({ cls := .type "set", dict := none, data := .set #[] 0 (.fresh 0 0 led) } : Obj)).objs.size l i ∧ h.IsList l items) (Pv := fun i v => items[i]? = some v) (Walks.list h3 _ l li2 items).toS sf nd en (by omega) (fun i v hv => ?_) hk (void _ (Nat.le_refl _)) (fun b hb => void b (by rw [List.mem_singleton.mp hb, sz1]; exact Nat.le_succ _)) hu items.size 0 _ _ (by omega) (Nat.zero_le _) ⟨⟨_, Heap.get?_push_size _ rfl, rfl, rfl⟩, hl1.push _⟩ (Moved.refl fun _ => rfl) (fun b o e => Heap.get?_push_of_some _ (Heap.get?_push_of_some _ e)) ?_ fun s' hm hS => ?_
      · have : items.toList[i]? = some v := by rw [Array.getElem?_toList]; exact hv
        rw [hi, List.getElem?_map] at this
        cases e : ks[i]? with
        | none => rw [e] at this; cases this
        | some p => rw [e] at this; exact ⟨p, rfl, (Option.some.inj this).symm⟩
      · subst eled
        exact ⟨[], #[], 0, _, pile_new at0, List.Perm.nil⟩
      · obtain ⟨h', g', d', tk', os'⟩ := s'
        have eg : g' = s.gens := hm.gens
        have ed : d' = s.drawn := hm.drawn
        have eo : os' = s.os := hm.os
        subst eg ed eo
        show wpAny _ _ _ _ _ _
        refine wpAny_pure ?_
        show wpAny _ _ (ret Value.none) _ _ _
        obtain ⟨L, es, ep, t, pi, pm⟩ := hS
        refine wpAny_pure ⟨rfl, q h' tk' L es ep t pi (by rw [← en, List.take_length] at pm; exact pm) fun b o hb e => ?_⟩
        exact hm.heap b o (by
          intro hw
          rcases List.mem_cons.mp hw with z | z
          · exact absurd z (Nat.ne_of_lt hb)
          · have z := List.mem_singleton.mp z
            rw [sz1] at z
            exact absurd z (Nat.ne_of_lt (Nat.lt_succ_of_lt hb))) (Heap.get?_push_of_some _ (Heap.get?_push_of_some _ e))
    · match r₂, hr₂ with
      | .error _, hr₂ => exact hr₂
      | .ok .next, hr₂ => exact hr₂.elim
      | .ok .brk, hr₂ => exact hr₂.elim
      | .ok .cont, hr₂ => exact hr₂.elim
      | .ok (.ret r), hr₂ =>
        obtain ⟨rfl, q'⟩ := hr₂
        repeat (any_goals (first | assumption | wp_step))
end
theorem pln_mix (P : Program) (w : World) : Pln (L2.mixKind P w) where
  cls := fun n k v h => by
    rcases keyIs_shape h with ⟨i, t, _, rfl⟩ | ⟨x, t, _, rfl⟩ <;> cases n <;> rfl
  hby := fun n k v h => by
    rcases keyIs_shape h with ⟨i, t, _, rfl⟩ | ⟨x, t, _, rfl⟩ <;> cases n <;> exact ⟨_, rfl⟩
theorem items_mix {P : Program} {w : World} : ∀ {k : List Key} {us : List Value}, Vals (k.map kV) us → ItemsAre (L2.mixKind P w) k us
  | [], _, .nil => .nil
  | .inl n :: k, _, .cons r t => by
    obtain ⟨tk, rfl⟩ := r
    exact .cons (mixKind_int P w n tk) (items_mix t)
  | .inr x :: k, _, .cons r t => by
    obtain ⟨tk, rfl⟩ := r
    exact .cons (mixKind_str P w x tk) (items_mix t)
theorem refs_mix : ∀ {ks : List (Addr × List Key)} {us : List Value}, Vals (ks.map fun p => V.ref p.1) us → us = ks.map fun p => Value.ref p.1
  | [], _, .nil => rfl
  | _ :: ks, _, .cons r t => by
    cases r
    rw [refs_mix t]
    rfl
/-- len(set(xs)), a list of different tuples of ints and texts -/
def tLenSetM (K : PySem.W.Frag) (ta : TE) : TE := fun σ H Q => ta σ H fun x H1 => ∃ (l : Addr) (ks : List (Addr × List Key)), x = .ref l ∧ SqL K H1 l (ks.map fun p => V.ref p.1) ∧ (∀ p ∈ ks, SqT K H1 p.1 (p.2.map kV)) ∧ (ks.map (·.2)).Nodup ∧ ks.length ≤ 70 ∧ Q (.int ks.length) H1
theorem pe_lenSetM {X : Cx} {a : Expr} {ta : TE} {p p2 q pos : Pos} (hu : X.A.units + 64 < cLine) (hg : Gl X "len") (hm : X.mg "len" = none) (hg2 : Gl X "set") (hm2 : X.mg "set" = none) (ha : PE X a ta) (hc : X.calm = true := by rfl)
    (na : starEach [a] X.env = (false, eval a X.env) :: starEach [] X.env := by rfl) : PE X (.Call (.Name "len" p) [.Call (.Name "set" p2) [a] [] q] [] pos) (tLenSetM X.K ta) := by
  refine ⟨fun pins s σ H Q I h => ?_⟩
  refine Call_ (ld_blt I hg hm boot_len ?_)
  refine PyProof.Rows.callWith_builtin1 (PyProof.Rows.args_cons ?_ rfl) rfl rfl
  refine Call_ (ld_blt I hg2 hm2 boot_set ?_)
  refine PyProof.Rows.callWith_type1 (PyProof.Rows.args_cons (thn (ha.run pins s σ H _ I h) fun v s1 ⟨x, H1, I1, r1, q1⟩ => PyProof.Rows.args_nil ?_) na) na rfl
  obtain ⟨l, ks, rfl, hq, hk, nd, few, q1⟩ := q1
  cases r1
  obtain ⟨its, r, pl, hz⟩ := I1.list hq
  refine set_madeT (pln_mix X.prog X.w) (I1.ok.hd hc) pl.isList (by simpa using refs_mix r) (fun p hp => ?_) nd few (by omega) fun h' tk L es ep t pi pm hkeep => ?_
  · obtain ⟨is, r2, ⟨o, ho, hcl, n, hd⟩, _⟩ := I1.tuple (hk p hp)
    exact ⟨o, is.toArray, n, ho, hcl, hd, by simpa using items_mix r2⟩
  refine PyProof.Rows.args_nil ?_
  have fit := pi.fit (s := { s1 with heap := h', toks := tk })
  have sz := ents_size pi.ents
  have ln := pm.length_eq
  obtain ⟨o, ho, hex, hd⟩ := pi.stands
  have I2 : Inv X pins σ H1 { s1 with heap := h', toks := tk } := I1.kept fun b o e => hkeep b o (Heap.lt_size e) e
  exact call_len_set ho hex hd fit (by omega) ⟨.int ks.length, H1, I2.tok _, ⟨_, by rw [sz, ln]⟩, q1⟩
end Far

namespace Far
open PySem PySem.Spec PyProof.Rows L2
open LamX (Tabs ExtN TabS)
open C8 (pss_cut tCut)
open SX (S)
theorem iteF' {A B : Prop} {b : Bool} (e : b = false) (h : B) : if b = true then A else B := by
  rw [e]
  exact iteF h
theorem iteT' {A B : Prop} {b : Bool} (e : b = true) (h : A) : if b = true then A else B := by
  rw [e]
  exact iteT h
theorem tabs_mv {T : List (Addr × Str)} {H H' : Hp} {d : Addr} {xs : List V} (t : Tabs T H) (e : H d = some (.lst xs)) (s : SmX d H H') : Tabs T H' := fun p hp => by
  obtain ⟨ps, h1, h2, h3⟩ := t p hp
  refine ⟨ps, s _ _ (ne_of h1 e (by intro z; cases z)) h1, h2, fun pos cv hc => ?_⟩
  obtain ⟨c, e1, e2⟩ := h3 pos cv hc
  exact ⟨c, e1, s _ _ (ne_of e2 e (by intro z; cases z)) e2⟩
theorem extN_put {H H' : Hp} {D : Addr} {o : HO} (e : ExtN H H') (n : H D = none) : ExtN H (upd H' D o) := fun c u h z => by
  rw [upd_ne fun q => by rw [q, n] at h; cases h]
  exact e c u h z
theorem eqv_same {d : PyData} (h : SeqAt.shaped d = true) : PyData.eqv d d = true := SeqAt.eqv_refl d (by
  unfold SeqAt.shaped at h
  simp at h
  exact h.1)
def Lay (n : Nat) (d : PyData) : Prop := PyData.canLay0 d = true ∧ PyData.depth d ≤ n
theorem Lay.mono {n m : Nat} {d : PyData} (h : Lay n d) (l : n ≤ m) : Lay m d := ⟨h.1, Nat.le_trans h.2 l⟩
theorem lay_all {n : Nat} : ∀ {ds : List PyData}, (∀ d ∈ ds, Lay n d) → PyData.canLayAll0 ds = true ∧ PyData.depthAll ds ≤ n
  | [], _ => ⟨rfl, Nat.zero_le _⟩
  | d :: r, h => by
    obtain ⟨a, b⟩ := lay_all fun e he => h e (List.mem_cons_of_mem _ he)
    obtain ⟨c, e⟩ := h d List.mem_cons_self
    refine ⟨?_, ?_⟩
    · show (PyData.canLay0 d && PyData.canLayAll0 r) = true
      rw [c, a]
      rfl
    · show max (PyData.depth d) (PyData.depthAll r) ≤ n
      omega
theorem Lay.tup {n : Nat} {ds : List PyData} (h : ∀ d ∈ ds, Lay n d) : Lay (n + 1) (.tuple ds) := by
  obtain ⟨a, b⟩ := lay_all h
  exact ⟨a, by show PyData.depthAll ds + 1 ≤ n + 1; omega⟩
theorem Lay.lst {n : Nat} {ds : List PyData} (h : ∀ d ∈ ds, Lay n d) : Lay (n + 1) (.list ds) := by
  obtain ⟨a, b⟩ := lay_all h
  exact ⟨a, by show PyData.depthAll ds + 1 ≤ n + 1; omega⟩
theorem Lay.str {n : Nat} {l : Nm} (h : NameOk l) : Lay n (strD l) := ⟨strOk_S h, Nat.zero_le _⟩
theorem Lay.int {n : Nat} (i : Int) : Lay n (.int i) := ⟨rfl, Nat.zero_le _⟩
theorem Lay.non {n : Nat} : Lay n .none := ⟨rfl, Nat.zero_le _⟩
theorem Lay.nms {n : Nat} {ls : List Nm} (h : ∀ l ∈ ls, NameOk l) : Lay (n + 1) (.tuple (ls.map strD)) := .tup fun d hd => by
  obtain ⟨l, hl, rfl⟩ := List.mem_map.mp hd
  exact .str (h l hl)
theorem lay_two {n : Nat} {a b : Nm} (ha : NameOk a) (hb : NameOk b) : Lay (n + 1) (.tuple [strD a, strD b]) := .tup fun d hd => by
  simp only [List.mem_cons, List.not_mem_nil, or_false] at hd
  rcases hd with e | e <;> subst e
  · exact .str ha
  · exact .str hb
theorem shaped_of {d : PyData} {n : Nat} (h : PyData.canLay0 d = true ∧ PyData.depth d ≤ n) (l : n ≤ 64) : SeqAt.shaped d = true := by
  show (PyData.canLay0 d && decide (PyData.depth d ≤ 64)) = true
  rw [h.1, decide_eq_true (by omega)]
  rfl
theorem for_enumL {K : PySem.W.Frag} {a : Addr} {xs : List V} {g : TG} {tb : TS} {D : Ends} {σ : L2.St} {H : Hp} (Pv : Nat → L2.St → Hp → Prop) (h0 : Pv 0 σ H) (hl : ∀ i σ H, Pv i σ H → SqL K H a xs)
    (hs : ∀ i x σ H T, xs[i]? = some x → Pv i σ H → H T = none → g (.ref T) σ (upd H T (.tup [.int (i : Nat), x])) fun σ2 H2 => tb { D with nx := Pv (i + 1), ct := Pv (i + 1), bk := D.nx } σ2 H2) (hd : ∀ σ H, Pv xs.length σ H → D.nx σ H) :
    ∃ W : Nat → Nat → L2.St → Hp → Prop, (∃ m, W 0 m σ H) ∧ ∀ i m σ H, W i m σ H →
      ((Ite K a).stop i H ∧ D.nx σ H) ∨ ((Ite K a).go i H ∧ ∃ N : L2.St → Hp → Prop, (∀ σ' H', N σ' H' → ∃ m', m' < m ∧ W (i + 1) m' σ' H') ∧ ∀ x H', (Ite K a).yld i H x H' → g x σ H' fun σ2 H2 => tb { D with nx := N, ct := N, bk := D.nx } σ2 H2) := by
  refine ⟨fun i m σ H => m = xs.length - i ∧ i ≤ xs.length ∧ Pv i σ H, ⟨xs.length, by simp, Nat.zero_le _, h0⟩, fun i m σ H ⟨em, hi, p⟩ => ?_⟩
  have q := hl i σ H p
  by_cases lt : i < xs.length
  · refine .inr ⟨⟨xs, xs[i], q, by simp [lt]⟩, Pv (i + 1), fun σ' H' p' => ⟨xs.length - (i + 1), by omega, rfl, lt, p'⟩, fun v H' ⟨T, x, ev, nT, eH, hx⟩ => ?_⟩
    rw [ev, eH]
    exact hs i x σ H T (hx xs q) p nT
  · have e : i = xs.length := by omega
    rw [e] at p
    exact .inl ⟨⟨xs, q, by omega⟩, hd σ H p⟩
theorem idx_S {pl : List Nm} {u : Nm} (h : u ∈ pl) : (pl.map S)[pl.idxOf u]? = some (S u) ∧ ∀ m, m < pl.idxOf u → (pl.map S)[m]? ≠ some (S u) := by
  have l := List.idxOf_lt_length_of_mem h
  refine ⟨by rw [List.getElem?_map, List.getElem?_eq_getElem l, List.getElem_idxOf]; rfl, fun m hm e => ?_⟩
  rw [List.getElem?_map, List.getElem?_eq_getElem (by omega)] at e
  have e := SX.S_inj (Option.some.inj e)
  have := List.not_of_lt_findIdx (p := (· == u)) (xs := pl) (i := m) hm
  rw [e] at this
  rw [beq_self_eq_true] at this
  cases this
/-- a pair as a key of a set -/
def keyT (x : Tri) : List Key := [.inl x.1, .inr (S x.2.1), .inr (S x.2.2)]
theorem keyT_inj {x y : Tri} (h : keyT x = keyT y) : x.2 = y.2 := by
  unfold keyT at h
  simp only [List.cons.injEq, and_true] at h
  obtain ⟨_, h1, h2⟩ := h
  exact Prod.ext_iff.mpr ⟨SX.S_inj (Sum.inr.inj h1), SX.S_inj (Sum.inr.inj h2)⟩
theorem keys_of {H : Hp} : ∀ {ws : List V} {xs : List Tri}, DtAll H ws (xs.map triD) → ∃ ks : List (Addr × List Key), ws = ks.map (fun p => V.ref p.1) ∧ (∀ p ∈ ks, H p.1 = some (.tup (p.2.map kV))) ∧ ks.map (·.2) = xs.map keyT
  | [], [], _ => ⟨[], rfl, fun p hp => (by cases hp), rfl⟩
  | w :: ws, x :: xs, h => by
    cases h with
    | cons h1 h2 =>
      obtain ⟨ks, e1, e2, e3⟩ := keys_of h2
      obtain ⟨a, rfl, ha⟩ := dt_tri h1
      refine ⟨(a, keyT x) :: ks, by rw [e1]; rfl, fun p hp => ?_, by rw [List.map_cons, List.map_cons, e3]⟩
      rcases List.mem_cons.mp hp with e | e
      · rw [e]
        exact ha
      · exact e2 p e
theorem shaped_tri {x : Tri} (h1 : NameOk x.2.1) (h2 : NameOk x.2.2) : SeqAt.shaped (triD x) = true := by
  show ((true && (PyData.strOk (S x.2.1) && (PyData.strOk (S x.2.2) && true))) && decide (_ ≤ 64)) = true
  rw [strOk_S h1, strOk_S h2]
  rfl
structure Txt10 (mg : Str → Option Value) : Prop where
  len : mg "len" = none
  range : mg "range" = none
  set : mg "set" = none
  enumerate : mg "enumerate" = none
  tuple : mg "tuple" = none
  list : mg "list" = none
  sorted : mg "sorted" = none
  max : mg "max" = none
abbrev s_law_numbered_right : Stmt := topS 23
abbrev N_law_numbered_right : List Str := ["tree", "places", "many", "pairs", "far", "at", "pair", "just", "farther", "most", "place", "length", "one", "other"]
theorem sc_law_numbered_right : FnScope N_law_numbered_right ["tree"] (defScope s_law_numbered_right) := ⟨rfl, rfl, rfl, by decide +kernel, rfl, by decide +kernel, by decide +kernel⟩
section
variable {P : Program} {w : World} {K : PySem.W.Frag} {mg : Str → Option Value} {base : Heap} {Pt : Addr}
def spNumR (Pt : Addr) : Sp := fun vs H Q _ => ∃ (v : V) (pl : List Nm) (ts : List Tie), vs = [v] ∧ Dt H v (treeD pl ts) ∧ PlZ H v pl ∧ Fine pl ts ∧ pl.length ≤ 12 ∧ Tabs [(Pt, qLam)] H ∧ ∀ H' : Hp, ExtN H H' → Tabs [(Pt, qLam)] H' → Q (.bl true) H'
theorem ok_numr {f : Addr} {fd : FuncData} (F : Fun K "_law_numbered_right" "_law_numbered_right" s_law_numbered_right f fd) (T : Txt10 mg) (Cnth_farthest : Cal P w K mg base 5 "nth_farthest" (spNth Pt)) (Call_farthest : Cal P w K mg base 6 "all_farthest" spAllFarthest) (Cfarthest : Cal P w K mg base 5 "farthest" spFarthest) (Clength_between : Cal P w K mg base 3 "length_between" spLen) (Ccount_so_far : Cal P w K mg base 5 "count_so_far" spCount) : FnOk P w K mg base CX0 7 f fd ["tree"] (spNumR Pt) := by
  refine F.ok sc_law_numbered_right (fun vs H Q E h => ?_) (fun cdv A outer s H vs Q E hr h => ?_)
  · obtain ⟨v, pl, ts, rfl, _⟩ := h
    rfl
  · obtain ⟨v, pl, ts, rfl, hd, ⟨t, a, b, o, rfl, ht, od, haz⟩, fine, l12, hT, q⟩ := h
    have ha : TupAt H a ((pl.map S).map V.str) := .inr ⟨o, od, haz⟩
    have en : ((pl.map S).map V.str).length = pl.length := by rw [List.length_map, List.length_map]
    have nd := fine.tree.nodup
    have FL := far_len pl ts
    have fp : 0 < pl.length := List.length_pos_iff.mpr fine.ne
    have small : (byFar pl ts).length ≤ 66 := by
      have : (pl.length : Int) * ((pl.length : Int) - 1) ≤ 12 * 11 := Int.mul_le_mul (by omega) (by omega) (by omega) (by omega)
      omega
    refine ⟨_, (pss_cons (ps_set (i := 1) sc_law_numbered_right.nd rfl (.inl rfl) (pe_ix ix_tup (pv 0) pe_int (fun _ _ => rfl)))
      (pss_cut (ps_set (i := 2) sc_law_numbered_right.nd rfl (.inl rfl) (pe_op op_fdiv (pe_op op_mul (pe_callB call_len_seq (by rfl) T.len bt_len (pa_cons (pv 1) pa_nil)) (pe_op op_sub (pe_callB call_len_seq (by rfl) T.len bt_len (pa_cons (pv 1) pa_nil)) pe_int)) pe_int))
      (pss_cons (ps_setLc (i := 3) (own := [("place", 10)]) (g := gName 10) (tt := tYes) rfl sc_law_numbered_right.nd rfl rfl (sw_true rfl rfl rfl (by decide +kernel)) (pi_range1 (by rfl) T.range (pa_cons (pv 2) pa_nil)) (blkOk_by (N := N_law_numbered_right) (sc := defScope s_law_numbered_right) (by decide +kernel)) (fun _ _ _ _ _ => pg_name (i := 10) sc_law_numbered_right.nd rfl (Or.inl rfl)) (fun _ _ _ _ _ => pts_nil) (fun _ _ _ _ _ => (pe_c Cnth_farthest hr (by decide) rfl (pa_cons (pv 0) (pa_cons (pv 10) pa_nil)))))
      (pss_cut (ps_if (PW.pt (pw_or (pt_cmpR op_notN (pe_c Cnth_farthest hr (by decide) rfl (pa_cons (pv 0) (pa_cons (pv 2) pa_nil))) pe_non (nomark _)) (pw_or1 (pt_cmpR op_ne (pe_lenSetM hr.units (by rfl) T.len (by rfl) T.set (pv 3)) (pv 2) (nomark _)))))
        (pss_one (ps_ret pe_bl))
        pss_nil)
      (pss_cons (ps_set (i := 4) sc_law_numbered_right.nd rfl (.inl rfl) (pe_c Call_farthest hr (by decide) rfl (pa_cons (pv 0) pa_nil)))
      (pss_cut (ps_if (pt_cmpR op_eq (pv 2) pe_int (nomark _))
        (pss_one (ps_ret (pe_and (pe_cmpR (op_eqD (hd_of hr (by decide))) (pv 4) (pe_tup pa_nil) (nomark _)) (pe_one (pe_cmpR (op_eqD (hd_of hr (by decide))) (pe_c Cfarthest hr (by decide) rfl (pa_cons (pv 0) pa_nil)) (pe_tup (pa_cons pe_int (pa_cons (pe_ix ix_tup (pv 1) pe_int (fun _ _ => rfl)) (pa_cons (pe_ix ix_tup (pv 1) pe_int (fun _ _ => rfl)) pa_nil)))) (nomark _))))))
        pss_nil)
      (pss_cut (ps_for PassesOwn.never rfl (pi_enum (by rfl) T.enumerate (pa_cons (pv 3) pa_nil)) (pg_tup rfl (pgs_cons (pg_name (i := 5) sc_law_numbered_right.nd rfl (.inl rfl)) (pgs_cons (pg_name (i := 6) sc_law_numbered_right.nd rfl (.inl rfl)) pgs_nil)))
        (pss_cut (ps_if (pt_cmpR op_ge (pe_ixZ (pv 1) (pe_ix ix_tup (pv 6) pe_int (fun _ _ => rfl))) (pe_ixZ (pv 1) (pe_ix ix_tup (pv 6) pe_int (fun _ _ => rfl))) (nomark _))
          (pss_one (ps_ret pe_bl))
          pss_nil)
        (pss_cut (ps_if (pt_cmpR op_ne (pe_c Clength_between hr (by decide) rfl (pa_cons (pv 0) (pa_cons (pe_ix ix_tup (pv 6) pe_int (fun _ _ => rfl)) (pa_cons (pe_ix ix_tup (pv 6) pe_int (fun _ _ => rfl)) pa_nil)))) (pe_ix ix_tup (pv 6) pe_int (fun _ _ => rfl)) (nomark _))
          (pss_one (ps_ret pe_bl))
          pss_nil)
        (pss_cut (ps_if (PW.pt (pw_and (pt_cmpR op_gt (pv 5) pe_int (nomark _)) (pw_and1 (pt_cmpR op_gt (pe_ix ix_tup (pv 6) pe_int (fun _ _ => rfl)) (pe_ix ix_tup (pe_ix ix_list (pv 3) (pe_op op_sub (pv 5) pe_int) (fun _ _ => rfl)) pe_int (fun _ _ => rfl)) (nomark _)))))
          (pss_one (ps_ret pe_bl))
          pss_nil)
        (pss_cons (ps_asg (pe_c Ccount_so_far hr (by decide) rfl (pa_cons (pv 0) (pa_cons (pe_ix ix_tup (pv 6) pe_int (fun _ _ => rfl)) pa_nil))) (pg_tup rfl (pgs_cons (pg_name (i := 7) sc_law_numbered_right.nd rfl (.inl rfl)) (pgs_cons (pg_name (i := 8) sc_law_numbered_right.nd rfl (.inl rfl)) pgs_nil))))
        (pss_one (ps_if (pt_not (pt_chain op_le op_lt (pv 8) (pv 5) (pe_op op_add (pv 8) (pv 7))))
          (pss_one (ps_ret pe_bl))
          pss_nil)))))))
      (pss_cut (ps_if (pt_cmpR (op_neD (hd_of hr (by decide))) (pe_c Cfarthest hr (by decide) rfl (pa_cons (pv 0) pa_nil)) (pe_ix ix_list (pv 3) pe_int (fun _ _ => rfl)) (nomark _))
        (pss_one (ps_ret pe_bl))
        pss_nil)
      (pss_cons (ps_set (i := 9) sc_law_numbered_right.nd rfl (.inr rfl) (pe_ix ix_tup (pe_ix ix_list (pv 3) pe_int (fun _ _ => rfl)) pe_int (fun _ _ => rfl)))
      (pss_one (ps_ret (pe_cmpR (op_eqD (hd_of hr (by decide))) (pv 4) (pe_tupleOf (by rfl) T.tuple (pe_lc (own := [("length", 11), ("one", 12), ("other", 13)]) (g := gTup K 3 (gCons (gName 11) (gCons (gName 12) (gCons (gName 13) gNil))))  rfl sc_law_numbered_right.nd (pi_list (pv 3)) (blkOk_by (N := N_law_numbered_right) (sc := defScope s_law_numbered_right) (by decide +kernel)) (fun _ _ _ _ _ => (pg_tup rfl (pgs_cons (pg_name (i := 11) sc_law_numbered_right.nd rfl (.inl rfl)) (pgs_cons (pg_name (i := 12) sc_law_numbered_right.nd rfl (.inl rfl)) (pgs_cons (pg_name (i := 13) sc_law_numbered_right.nd rfl (.inl rfl)) pgs_nil))))) (fun _ _ _ _ _ => pts_one (pt_cmpR op_eq (pv 11) (pv 9) (nomark _))) (fun _ _ _ _ _ => (pe_tup (pa_cons (pv 12) (pa_cons (pv 13) pa_nil)))))) (nomark _))))))))))))), ?_⟩
    refine ⟨_, rfl, t, _, 0, .ref a, rfl, rfl, SqT.of ht, atI_nat (j := 0) rfl, ?_⟩
    refine ⟨fun σ' H' => σ' = [some (.ref t), some (.ref a), some (.int ((byFar pl ts).length : Nat)), none, none, none, none, none, none, none, none, none, none, none] ∧ H' = H, ?_, fun σ' H' hM => ?_⟩
    · refine ⟨_, rfl, a, _, rfl, .inr ha.sq, _, rfl, a, _, rfl, .inr ha.sq, _, _, rfl, rfl, _, _, rfl, rfl, .inl ⟨by omega, by omega⟩, _, _, rfl, rfl, ⟨by decide, by decide⟩, ?_⟩
      refine ⟨?_, rfl⟩
      show [some (V.ref t), some (V.ref a), some (V.int (((((pl.map S).map V.str).length : Nat) : Int) * (((((pl.map S).map V.str).length : Nat) : Int) - 1) / 2)), none, none, none, none, none, none, none, none, none, none, none] = _
      rw [en, ← FL, Int.mul_ediv_cancel_left _ (by decide)]
    obtain ⟨rfl, rfl⟩ := hM
    -- the pairs by number
    refine ⟨_, rfl, ((byFar pl ts).length : Nat), rfl, by omega, by omega, fun D nD => ?_⟩
    refine lc_range (lo := 0) (n := (((byFar pl ts).length : Nat) : Int).toNat) (fun i H2 => ExtN H' H2 ∧ Tabs [(Pt, qLam)] H2 ∧ ∃ ws : List V, H2 D = some (.lst ws) ∧ DtAll H2 ws (((byFar pl ts).take i).map triD)) ⟨fun c u h _ => same_new (Same.refl H') nD c u h, hT.ext (same_new (Same.refl H') nD), [], upd_same, .nil⟩ (fun i H2 hi hP => ?_) (fun H3 hP => ?_)
    · obtain ⟨E2, T2, ws, hD, hW⟩ := hP
      have hi : i < (byFar pl ts).length := hi
      obtain ⟨x, hx⟩ : ∃ x, (byFar pl ts)[i]? = some x := ⟨_, List.getElem?_eq_getElem hi⟩
      have wl := DtAll.len hW
      rw [List.length_map, List.length_take] at wl
      refine ⟨rfl, _, rfl, _, rfl, .ref t, pl, ts, 0 + (i : Int), rfl, Dt.keep (TK.ofN E2) hd, fine, T2, fun H3 r E3 T3 h3 => ?_⟩
      rw [Int.zero_add, nth_at hx] at h3
      have hD3 := E3 _ _ hD (fun ps z => by cases z)
      have tk := TK.mut (o := .lst (ws ++ [r])) hD3
      refine ⟨ws, hD3, sz_lt (by omega), extN_put (E2.trans E3) nD, tabs_mv T3 hD3 (SmX.refl H3).mut, ws ++ [r], upd_same, ?_⟩
      rw [List.take_add_one, hx, List.map_append]
      exact DtAll.app (DtAll.keep ((TK.ofN E3).trans tk) hW) (.cons (Dt.keep tk h3) .nil)
    obtain ⟨E3, T3, ws, hD, hW⟩ := hP
    have hW : DtAll H3 ws ((byFar pl ts).map triD) := by
      rw [show (((byFar pl ts).length : Nat) : Int).toNat = (byFar pl ts).length from rfl, List.take_length] at hW
      exact hW
    have wl := DtAll.len hW
    rw [List.length_map] at wl
    -- none behind them, each once
    refine ⟨fun σ' H4 => σ' = [some (.ref t), some (.ref a), some (.int ((byFar pl ts).length : Nat)), some (.ref D), none, none, none, none, none, none, none, none, none, none] ∧ ExtN H3 H4 ∧ Tabs [(Pt, qLam)] H4, ?_, fun σ' H4 hM => ?_⟩
    · refine ⟨_, rfl, _, rfl, .ref t, pl, ts, (byFar pl ts).length, rfl, Dt.keep (TK.ofN E3) hd, fine, T3, fun H4 r E4 T4 h4 => ?_⟩
      rw [nth_end rfl] at h4
      cases h4
      refine ⟨rfl, _, rfl, iteF' (by simp) ?_⟩
      obtain ⟨ks, ek, hk, k2⟩ := keys_of (DtAll.keep (TK.ofN E4) hW)
      have hD4 := E4 _ _ hD (fun ps z => by cases z)
      rw [ek] at hD4
      have kl : ks.length = (byFar pl ts).length := by
        have := congrArg List.length k2
        simpa using this
      have knd : (ks.map (·.2)).Nodup := by
        rw [k2]
        exact List.pairwise_map.mpr ((List.pairwise_map.mp (far_nd (ts := ts) nd)).imp fun {x y} ne e => ne (keyT_inj e))
      refine ⟨_, rfl, D, ks, rfl, SqL.of hD4, fun p hp => SqT.of (hk p hp), knd, by omega, _, rfl, rfl, _, rfl, ?_⟩
      rw [kl]
      exact iteF' (by simp) ⟨rfl, E4, T4⟩
    obtain ⟨rfl, E4, T4⟩ := hM
    have hD := E4 _ _ hD (fun ps z => by cases z)
    have hW := DtAll.keep (TK.ofN E4) hW
    have E4 := E3.trans E4
    have hd := Dt.keep (TK.ofN E4) hd
    have ht := E4 _ _ ht (fun ps z => by cases z)
    have haz := E4 _ _ haz (fun ps z => by cases z)
    have ha : TupAt H4 a ((pl.map S).map V.str) := .inr ⟨o, od, haz⟩
    clear T3 E3
    -- all the farthest
    refine ⟨_, rfl, .ref t, pl, ts, rfl, hd, fine, fun H5 fr S5 h5 => ?_⟩
    have hD := S5 _ _ hD
    have hW := DtAll.keep (TK.of S5) hW
    have hd := Dt.keep (TK.of S5) hd
    have ht := S5 _ _ ht
    have haz := S5 _ _ haz
    have ha := ha.same S5
    have E5 : ExtN H' H5 := fun c u h z => S5 c u (E4 c u h z)
    have T5 := T4.ext S5
    clear T4 E4
    have shA : SeqAt.shaped (allD pl ts) = true := shaped_of (n := 2) (Lay.tup fun d hd => by
      obtain ⟨y, hy, rfl⟩ := List.mem_map.mp hd
      obtain ⟨a1, a2, _⟩ := mem_pairs (List.mem_filter.mp hy).1
      exact lay_two (fine.ok _ a1) (fine.ok _ a2)) (by omega)
    -- one place only
    refine ⟨fun σ' H6 => σ' = [some (.ref t), some (.ref a), some (.int ((byFar pl ts).length : Nat)), some (.ref D), some fr, none, none, none, none, none, none, none, none, none] ∧ H6 = H5 ∧ byFar pl ts ≠ [], ?_, fun σ' H6 hM => ?_⟩
    · refine ⟨_, rfl, rfl, _, rfl, ?_⟩
      refine ite2 (fun z => ?_) (fun z => ⟨rfl, rfl, fun e => ?_⟩)
      · have e : byFar pl ts = [] := List.length_eq_zero_iff.mp (by have := of_decide_eq_true z; have := V.int.inj this; omega)
        obtain ⟨f1, f2⟩ := far_none e
        rw [f2] at h5
        obtain ⟨x, r, ex⟩ : ∃ x r, pl = x :: r := by
          cases hp : pl with
          | nil => exact absurd hp fine.ne
          | cons x r => exact ⟨x, r, rfl⟩
        have f0 : ((pl.map S).map V.str)[0]? = some (.str (S x)) := by rw [ex]; rfl
        refine ⟨_, rfl, (by show 0 ≤ sizeLine; decide), fun p np => ?_⟩
        have S6 := same_new (o := .tup []) (Same.refl H5) np
        have s0 : SeqAt.shaped (.tuple []) = true := rfl
        refine ⟨_, _, Dt.dp (Dt.keep (TK.of S6) h5), Dt.dp (.tup upd_same .nil), s0, s0, _, rfl, ?_⟩
        rw [eqv_same s0]
        refine iteT ?_
        refine ⟨_, rfl, .ref t, pl, ts, rfl, Dt.keep (TK.of S6) hd, fine, fun H7 r7 S7 h7 => ?_⟩
        have S67 := S6.trans S7
        refine ⟨_, rfl, a, _, 0, .str (S x), rfl, rfl, (ha.same S67).sq, atI_nat (j := 0) f0, _, rfl, a, _, 0, .str (S x), rfl, rfl, (ha.same S67).sq, atI_nat (j := 0) f0, (by show 3 ≤ sizeLine; decide), fun p8 np8 => ?_⟩
        have S8 := same_new (o := .tup [.int 0, .str (S x), .str (S x)]) (Same.refl H7) np8
        rw [f1, ex] at h7
        have h7 : Dt H7 r7 (.tuple [.int 0, .str (S x), .str (S x)]) := h7
        have sh : SeqAt.shaped (.tuple [.int 0, .str (S x), .str (S x)]) = true := shaped_tri (x := (0, x, x)) (fine.ok x (by rw [ex]; exact List.mem_cons_self)) (fine.ok x (by rw [ex]; exact List.mem_cons_self))
        refine ⟨_, _, Dt.dp (Dt.keep (TK.of S8) h7), Dt.dp (.tup upd_same (.cons (.int _) (.cons (.str _) (.cons (.str _) .nil)))), sh, sh, ?_⟩
        have SS := S67.trans S8
        rw [eqv_same sh]
        exact q _ (fun c u h z => SS c u (E5 c u h z)) (T5.ext SS)
      · exact z (by rw [e]; rfl)
    obtain ⟨rfl, rfl, ne⟩ := hM
    obtain ⟨x0, rest, eB⟩ : ∃ x r, byFar pl ts = x :: r := by
      cases hb : byFar pl ts with
      | nil => exact absurd hb ne
      | cons x r => exact ⟨x, r, rfl⟩
    obtain ⟨hbest, hfar, hfD⟩ := far_first eB
    -- each of them
    refine ⟨fun σ' H7 => ∃ x5 x6 x7 x8, σ' = [some (.ref t), some (.ref a), some (.int ((byFar pl ts).length : Nat)), some (.ref D), some fr, x5, x6, x7, x8, none, none, none, none, none] ∧ Same H6 H7, ?_, fun σ' H7 hM => ?_⟩
    · refine ⟨_, rfl, D, _, rfl, SqL.of hD, ?_⟩
      refine for_enumL (K := K) (a := D) (xs := ws) (fun i σ' H7 => ∃ x5 x6 x7 x8, σ' = [some (.ref t), some (.ref a), some (.int ((byFar pl ts).length : Nat)), some (.ref D), some fr, x5, x6, x7, x8, none, none, none, none, none] ∧ Same H6 H7) ⟨none, none, none, none, rfl, Same.refl _⟩ (fun i σ' H7 hP => by obtain ⟨_, _, _, _, _, s⟩ := hP; exact SqL.of (s _ _ hD)) (fun i y σ' H7 u hi hP nu => ?_) (fun σ' H7 hP => hP)
      obtain ⟨x5, x6, x7, x8, rfl, S7⟩ := hP
      obtain ⟨d, hdd, hy⟩ := DtAll.get hW hi
      rw [List.getElem?_map] at hdd
      cases ex : (byFar pl ts)[i]? with
      | none => rw [ex] at hdd; cases hdd
      | some x =>
        rw [ex] at hdd
        have ed : d = triD x := (Option.some.inj hdd).symm
        subst ed
        obtain ⟨pa, rfl, hpa⟩ := dt_tri hy
        obtain ⟨m1, m2, m3, m4⟩ := far_mem nd (List.mem_of_getElem? ex)
        have S8 := same_new (o := .tup [.int (i : Nat), .ref pa]) S7 nu
        have hu : (upd H7 u (.tup [.int (i : Nat), .ref pa])) u = some (.tup [.int (i : Nat), .ref pa]) := upd_same
        generalize upd H7 u (.tup [.int (i : Nat), .ref pa]) = H8 at S8 hu
        have hpa8 := S8 _ _ hpa
        refine ⟨u, _, rfl, SqT.of hu, rfl, _, _, rfl, _, _, rfl, rfl, ?_⟩
        -- its places in order
        refine ⟨fun σ' H9 => σ' = [some (.ref t), some (.ref a), some (.int ((byFar pl ts).length : Nat)), some (.ref D), some fr, some (.int (i : Nat)), some (.ref pa), x7, x8, none, none, none, none, none] ∧ Same H6 H9, ?_, fun σ' H9 hM => ?_⟩
        · obtain ⟨i1, i2⟩ := idx_S m1
          obtain ⟨j1, j2⟩ := idx_S m2
          refine ⟨_, rfl, a, pl.map S, o, rfl, od, S8 _ _ haz, _, rfl, pa, _, 1, _, rfl, rfl, SqT.of hpa8, atI_nat (j := 1) rfl, rfl, _, _, rfl, i1, i2, _, rfl, a, pl.map S, o, rfl, od, S8 _ _ haz, _, rfl, pa, _, 2, _, rfl, rfl, SqT.of hpa8, atI_nat (j := 2) rfl, rfl, _, _, rfl, j1, j2, _, _, rfl, rfl, _, rfl, iteF' (decide_eq_false (by omega)) ⟨rfl, S8⟩⟩
        obtain ⟨rfl, S9⟩ := hM
        -- its length
        refine ⟨fun σ' H10 => σ' = [some (.ref t), some (.ref a), some (.int ((byFar pl ts).length : Nat)), some (.ref D), some fr, some (.int (i : Nat)), some (.ref pa), x7, x8, none, none, none, none, none] ∧ Same H6 H10, ?_, fun σ' H10 hM => ?_⟩
        · have hpa9 := S9 _ _ hpa
          refine ⟨_, rfl, _, rfl, pa, _, 1, _, rfl, rfl, SqT.of hpa9, atI_nat (j := 1) rfl, _, rfl, pa, _, 2, _, rfl, rfl, SqT.of hpa9, atI_nat (j := 2) rfl, .ref t, pl, ts, x.2.1, x.2.2, rfl, Dt.keep (TK.of S9) hd, fine, m1, m2, fun H10 S10 => ?_⟩
          have S10 := S9.trans S10
          refine ⟨_, rfl, pa, _, 0, _, rfl, rfl, SqT.of (S10 _ _ hpa), atI_nat (j := 0) rfl, rfl, _, rfl, ?_⟩
          rw [m3]
          exact iteF' (by simp) ⟨rfl, S10⟩
        obtain ⟨rfl, S10⟩ := hM
        -- not longer than the one ahead
        refine ⟨fun σ' H11 => σ' = [some (.ref t), some (.ref a), some (.int ((byFar pl ts).length : Nat)), some (.ref D), some fr, some (.int (i : Nat)), some (.ref pa), x7, x8, none, none, none, none, none] ∧ Same H6 H11, ?_, fun σ' H11 hM => ?_⟩
        · refine ⟨_, rfl, _, _, rfl, rfl, _, rfl, ?_⟩
          refine ite2 (fun z => ?_) (fun z => iteF ⟨rfl, S10⟩)
          have z := of_decide_eq_true z
          obtain ⟨j, rfl⟩ : ∃ j, i = j + 1 := ⟨i - 1, by omega⟩
          have ile := (List.getElem?_eq_some_iff.mp ex).1
          obtain ⟨x', ex'⟩ : ∃ x', (byFar pl ts)[j]? = some x' := ⟨_, List.getElem?_eq_getElem (by omega)⟩
          obtain ⟨y', hy'⟩ : ∃ y', ws[j]? = some y' := ⟨_, List.getElem?_eq_getElem (by omega)⟩
          obtain ⟨d', hd', hyd⟩ := DtAll.get hW hy'
          rw [List.getElem?_map, ex'] at hd'
          have ed : d' = triD x' := (Option.some.inj hd').symm
          subst ed
          obtain ⟨pb, rfl, hpb⟩ := dt_tri hyd
          have le : x.1 ≤ x'.1 := by
            obtain ⟨l1, e1⟩ := List.getElem?_eq_some_iff.mp ex'
            obtain ⟨l2, e2⟩ := List.getElem?_eq_some_iff.mp ex
            have := List.pairwise_iff_getElem.mp (far_falls pl ts) j (j + 1) l1 l2 (by omega)
            rw [e1, e2] at this
            exact this
          have ei : ((j + 1 : Nat) : Int) - 1 = ((j : Nat) : Int) := by omega
          refine ⟨_, rfl, pa, _, 0, _, rfl, rfl, SqT.of (S10 _ _ hpa), atI_nat (j := 0) rfl, _, rfl, _, rfl, _, _, rfl, rfl, D, _, _, .ref pb, rfl, rfl, SqL.of (S10 _ _ hD), by rw [ei]; exact atI_nat hy', pb, _, 0, _, rfl, rfl, SqT.of (S10 _ _ hpb), atI_nat (j := 0) rfl, _, _, rfl, rfl, _, rfl, iteF' (decide_eq_false (by omega)) ⟨rfl, S10⟩⟩
        obtain ⟨rfl, S11⟩ := hM
        have hpa11 := S11 _ _ hpa
        obtain ⟨ca, cb, ec, c1, c2⟩ := far_counts ex
        refine ⟨_, rfl, _, rfl, pa, _, 0, _, rfl, rfl, SqT.of hpa11, atI_nat (j := 0) rfl, .ref t, pl, ts, x.1, rfl, Dt.keep (TK.of S11) hd, fine, fun H12 r S12 h12 => ?_⟩
        rw [ec] at h12
        obtain ⟨m8, xs8, rfl, hm8, hx8⟩ := dt_tup h12 fun _ => ⟨_, List.mem_cons_self, fun l z => by cases z⟩
        cases hx8 with
        | cons i1 hx8 =>
        cases i1
        cases hx8 with
        | cons i2 hx8 =>
        cases i2
        cases hx8
        have S13 := S11.trans S12
        refine ⟨m8, _, rfl, SqT.of hm8, rfl, _, _, rfl, _, _, rfl, rfl, ?_⟩
        refine ⟨_, rfl, _, rfl, _, _, rfl, rfl, _, rfl, ?_⟩
        refine iteT' (decide_eq_true (by omega)) ?_
        refine ⟨_, rfl, _, rfl, _, _, rfl, rfl, _, _, rfl, rfl, _, rfl, ?_⟩
        refine iteF' (by rw [decide_eq_true (by omega)]; rfl) ⟨_, _, _, _, rfl, S13⟩
    obtain ⟨x5, x6, x7, x8, rfl, S7⟩ := hM
    have hD := S7 _ _ hD
    have hW := DtAll.keep (TK.of S7) hW
    have hd := Dt.keep (TK.of S7) hd
    have h5 := Dt.keep (TK.of S7) h5
    have E7 : ExtN H' H7 := fun c u h z => S7 c u (E5 c u h z)
    have T7 := T5.ext S7
    obtain ⟨w0, hw0⟩ : ∃ y, ws[0]? = some y := ⟨_, List.getElem?_eq_getElem (by rw [wl, eB]; exact Nat.succ_pos _)⟩
    obtain ⟨d0, hd0, hy0⟩ := DtAll.get hW hw0
    rw [eB] at hd0
    have ed0 : d0 = triD x0 := (Option.some.inj hd0).symm
    subst ed0
    obtain ⟨p0, rfl, hp0⟩ := dt_tri hy0
    obtain ⟨m1, m2, _, _⟩ := far_mem nd (x := x0) (by rw [eB]; exact List.mem_cons_self)
    have sh0 := shaped_tri (x := x0) (fine.ok _ m1) (fine.ok _ m2)
    -- the farthest is the first
    refine ⟨fun σ' H8 => σ' = [some (.ref t), some (.ref a), some (.int ((byFar pl ts).length : Nat)), some (.ref D), some fr, x5, x6, x7, x8, none, none, none, none, none] ∧ Same H7 H8, ?_, fun σ' H8 hM => ?_⟩
    · refine ⟨_, rfl, .ref t, pl, ts, rfl, hd, fine, fun H8 r8 S8 h8 => ?_⟩
      rw [hfD] at h8
      refine ⟨_, rfl, D, _, 0, .ref p0, rfl, rfl, SqL.of (S8 _ _ hD), atI_nat (j := 0) hw0, _, _, Dt.dp h8, Dt.dp (Dt.keep (TK.of S8) hy0), sh0, sh0, _, rfl, ?_⟩
      rw [eqv_same sh0]
      exact iteF ⟨rfl, S8⟩
    obtain ⟨rfl, S8⟩ := hM
    have hD := S8 _ _ hD
    have hW := DtAll.keep (TK.of S8) hW
    have h5 := Dt.keep (TK.of S8) h5
    refine ⟨_, rfl, D, _, 0, .ref p0, rfl, rfl, SqL.of hD, atI_nat (j := 0) hw0, p0, _, 0, _, rfl, rfl, SqT.of (S8 _ _ hp0), atI_nat (j := 0) rfl, ?_⟩
    refine ⟨_, rfl, _, rfl, D, rfl, ⟨_, SqL.of hD⟩, fun G nG => ?_⟩
    refine lc_list (K := K) (a := D) (xs := ws) (fun i H9 => Same H8 H9 ∧ ∃ us : List V, H9 G = some (.lst us) ∧ us.length ≤ i ∧ DtAll H9 us ((((byFar pl ts).take i).filter fun y => y.1 == x0.1).map fun y => PyData.tuple [.str (S y.2.1), .str (S y.2.2)])) ⟨same_new (Same.refl _) nG, [], upd_same, Nat.le_refl _, .nil⟩ (fun i H9 _ hP => SqL.of (hP.1 _ _ hD)) (fun i y H9 hi hP => ?_) (fun H9 hP => ?_)
    · obtain ⟨SM, us, hG, ul, hU⟩ := hP
      obtain ⟨d, hdd, hy⟩ := DtAll.get hW hi
      rw [List.getElem?_map] at hdd
      cases ex : (byFar pl ts)[i]? with
      | none => rw [ex] at hdd; cases hdd
      | some x =>
        rw [ex] at hdd
        have ed : d = triD x := (Option.some.inj hdd).symm
        subst ed
        have il := (List.getElem?_eq_some_iff.mp ex).1
        obtain ⟨pa, rfl, hpa⟩ := dt_tri hy
        refine ⟨pa, _, rfl, SqT.of (SM _ _ hpa), rfl, _, _, rfl, _, _, rfl, _, _, rfl, rfl, rfl, _, rfl, _, rfl, rfl, _, rfl, ?_⟩
        refine ite2 (fun z => ?_) (fun z => ?_)
        · have z := V.int.inj (of_decide_eq_true z)
          refine ⟨_, rfl, _, rfl, (by show 2 ≤ sizeLine; decide), fun e ne => ?_⟩
          have S9 := same_new (o := .tup [.str (S x.2.1), .str (S x.2.2)]) (Same.refl H9) ne
          have he : (upd H9 e (.tup [.str (S x.2.1), .str (S x.2.2)])) e = some (.tup [.str (S x.2.1), .str (S x.2.2)]) := upd_same
          generalize upd H9 e (.tup [.str (S x.2.1), .str (S x.2.2)]) = H10 at S9 he
          have hG2 := S9 _ _ hG
          have tk := TK.mut (o := .lst (us ++ [.ref e])) hG2
          refine ⟨us, hG2, sz_lt (by omega), same_put (SM.trans S9) nG, us ++ [.ref e], upd_same, by rw [List.length_append]; show _ + 1 ≤ _; omega, ?_⟩
          rw [List.take_add_one, ex, List.filter_append, List.map_append]
          have e1 : (([x] : List Tri).filter fun y => y.1 == x0.1) = [x] := by rw [List.filter_cons_of_pos (by simp [z])]; rfl
          show DtAll _ _ (_ ++ List.map _ (([x] : List Tri).filter fun y => y.1 == x0.1))
          rw [e1]
          exact DtAll.app (DtAll.keep ((TK.of S9).trans tk) hU) (.cons (.tup (tk.tup _ _ he) (.cons (.str _) (.cons (.str _) .nil))) .nil)
        · have z : x.1 ≠ x0.1 := fun e => z (decide_eq_true (congrArg V.int e))
          refine ⟨SM, us, hG, by omega, ?_⟩
          rw [List.take_add_one, ex, List.filter_append, List.map_append]
          have e1 : (([x] : List Tri).filter fun y => y.1 == x0.1) = [] := by rw [List.filter_cons_of_neg (by simp [z])]; rfl
          show DtAll _ _ (_ ++ List.map _ (([x] : List Tri).filter fun y => y.1 == x0.1))
          rw [e1, List.map_nil, List.append_nil]
          exact hU
    obtain ⟨SM, us, hG, _, hU⟩ := hP
    rw [wl, List.take_length, ← hfar] at hU
    refine .inl ⟨G, _, rfl, SqL.of hG, fun g ng => ?_⟩
    have S10 := same_new (o := .tup us) SM ng
    have due : Dt (upd H9 g (.tup us)) (.ref g) (allD pl ts) := .tup upd_same (DtAll.keep (TK.new ng) hU)
    refine ⟨_, _, Dt.dp (Dt.keep (TK.of S10) h5), Dt.dp due, shA, shA, ?_⟩
    rw [eqv_same shA]
    have SS := S8.trans S10
    exact q _ (fun c u h z => SS c u (E7 c u h z)) (T7.ext SS)
end
end Far

namespace Far
open PySem PySem.Spec PyProof.Rows L2
open LamX (Tabs ExtN)
open C8 (pss_cut tCut)
open SX (S)
theorem prsR_has (ts : List Tie) : ∀ {l : List Nm} {x y : Nm}, x ∈ l → y ∈ l → x ≠ y → (dist ts x y, x, y) ∈ prsR ts l ∨ (dist ts y x, y, x) ∈ prsR ts l
  | [], x, y, h, _, _ => by cases h
  | a :: r, x, y, hx, hy, ne => by
    show _ ∈ r.map (fun y => (dist ts a y, a, y)) ++ prsR ts r ∨ _ ∈ r.map (fun y => (dist ts a y, a, y)) ++ prsR ts r
    rcases List.mem_cons.mp hx with e | hx'
    · subst e
      rcases List.mem_cons.mp hy with e | hy'
      · exact absurd e.symm ne
      · exact .inl (List.mem_append_left _ (List.mem_map.mpr ⟨y, hy', rfl⟩))
    · rcases List.mem_cons.mp hy with e | hy'
      · subst e
        exact .inr (List.mem_append_left _ (List.mem_map.mpr ⟨x, hx', rfl⟩))
      · exact (prsR_has ts hx' hy' ne).imp (List.mem_append_right _) (List.mem_append_right _)
theorem ints_of (pl : List Nm) (f : Nm → Int) : (pl.map fun x => V.int (f x)) = (pl.map f).map V.int := by rw [List.map_map]; rfl
def endsOf (xs : List Tri) : List Nm := xs.flatMap fun x => [x.2.1, x.2.2]
theorem endsOf_len (xs : List Tri) : (endsOf xs).length = 2 * xs.length := by
  induction xs with
  | nil => rfl
  | cons x r ih =>
    unfold endsOf at *
    rw [List.flatMap_cons, List.length_append, ih]
    show 2 + 2 * r.length = 2 * (r.length + 1)
    omega
section
variable {pl : List Nm} {ts : List Tie}
/-- a farthest pair, and that none is farther apart -/
theorem far_top (F : IsTree pl ts) {p : Tri} (hp : p ∈ farOf pl ts) : p.2.1 ∈ pl ∧ p.2.2 ∈ pl ∧ p.1 = dist ts p.2.1 p.2.2 ∧ p.1 = best (pairsOf pl ts) ∧ (∀ q ∈ pairsOf pl ts, q.1 ≤ p.1) ∧ ∀ y ∈ pl, ∀ z ∈ pl, y ≠ z → dist ts y z ≤ p.1 := by
  obtain ⟨h1, h2⟩ := List.mem_filter.mp hp
  obtain ⟨a, b, c⟩ := mem_pairs h1
  have h2 := eq_of_beq h2
  obtain ⟨x, r, ex⟩ : ∃ x r, byFar pl ts = x :: r := by
    cases hb : byFar pl ts with
    | nil =>
      have := (far_perm pl ts).mem_iff.mpr h1
      rw [hb] at this
      cases this
    | cons x r => exact ⟨x, r, rfl⟩
  have e := (far_first ex).1
  have all : ∀ q ∈ pairsOf pl ts, q.1 ≤ p.1 := fun q hq => by
    have := (far_perm pl ts).mem_iff.mpr hq
    have fl := far_falls pl ts
    rw [ex] at this fl
    rcases List.mem_cons.mp this with z | z
    · rw [z]
      omega
    · have := (List.pairwise_cons.mp fl).1 q z
      omega
  refine ⟨a, b, c, h2, all, fun y hy z hz ne => ?_⟩
  rcases prsR_has ts hy hz ne with q | q
  · exact all _ (by rw [pairsOf_rec]; exact q)
  · rw [(F.dist_symm hy hz).1]
    exact all _ (by rw [pairsOf_rec]; exact q)
/-- whoever is farthest from some place is an end of a farthest pair -/
theorem end_of (F : IsTree pl ts) {u x : Nm} (hu : u ∈ pl) (hx : x ∈ pl) (far : ∀ y ∈ pl, dist ts u y ≤ dist ts u x) (ne : farOf pl ts ≠ []) : x ∈ endsOf (farOf pl ts) := by
  obtain ⟨p, hp⟩ := List.exists_mem_of_ne_nil _ ne
  obtain ⟨a, b, c, e, all, top⟩ := far_top F hp
  have end1 : ∀ q ∈ farOf pl ts, q.2.1 ∈ endsOf (farOf pl ts) ∧ q.2.2 ∈ endsOf (farOf pl ts) := fun q hq => ⟨List.mem_flatMap.mpr ⟨q, hq, List.mem_cons_self⟩, List.mem_flatMap.mpr ⟨q, hq, List.mem_cons_of_mem _ List.mem_cons_self⟩⟩
  by_cases xa : x = p.2.1
  · rw [xa]
    exact (end1 p hp).1
  by_cases xb : x = p.2.2
  · rw [xb]
    exact (end1 p hp).2
  have hit : ∀ z ∈ pl, x ≠ z → dist ts x z = p.1 → x ∈ endsOf (farOf pl ts) := fun z hz nz ez => by
    rcases prsR_has ts hx hz nz with q | q
    · have q2 : (dist ts x z, x, z) ∈ farOf pl ts := List.mem_filter.mpr ⟨by rw [pairsOf_rec]; exact q, by show (dist ts x z == best (pairsOf pl ts)) = true; rw [ez, e]; exact beq_self_eq_true _⟩
      exact (end1 _ q2).1
    · have q2 : (dist ts z x, z, x) ∈ farOf pl ts := List.mem_filter.mpr ⟨by rw [pairsOf_rec]; exact q, by show (dist ts z x == best (pairsOf pl ts)) = true; rw [← (F.dist_symm hx hz).1, ez, e]; exact beq_self_eq_true _⟩
      exact (end1 _ q2).2
  rcases four F hu hx a b (far _ a) (far _ b) (by rw [← c]; exact top x hx _ a xa) (by rw [← c]; exact top x hx _ b xb) with z | z
  · exact hit _ a xa (by rw [z, c])
  · exact hit _ b xb (by rw [z, c])
end
abbrev s_law_ends_right : Stmt := topS 24
abbrev N_law_ends_right : List Str := ["tree", "ends", "one", "other", "place", "lengths", "at", "length"]
theorem sc_law_ends_right : FnScope N_law_ends_right ["tree"] (defScope s_law_ends_right) := ⟨rfl, rfl, rfl, by decide +kernel, rfl, by decide +kernel, by decide +kernel⟩
section
variable {P : Program} {w : World} {K : PySem.W.Frag} {mg : Str → Option Value} {base : Heap}
def spEndsR : Sp := fun vs H Q _ => ∃ (v : V) (pl : List Nm) (ts : List Tie), vs = [v] ∧ Dt H v (treeD pl ts) ∧ Fine pl ts ∧ pl.length ≤ 40 ∧ ∀ H' : Hp, Same H H' → Q (.bl true) H'
theorem ok_endsr {f : Addr} {fd : FuncData} (F : Fun K "_law_ends_right" "_law_ends_right" s_law_ends_right f fd) (T : Txt10 mg) (Call_farthest : Cal P w K mg base 6 "all_farthest" spAllFarthest) (Clengths_from : Cal P w K mg base 3 "lengths_from" spLens) : FnOk P w K mg base CX0 7 f fd ["tree"] spEndsR := by
  refine F.ok sc_law_ends_right (fun vs H Q E h => ?_) (fun cdv A outer s H vs Q E hr h => ?_)
  · obtain ⟨v, pl, ts, rfl, _⟩ := h
    rfl
  · obtain ⟨v, pl, ts, rfl, hd, fine, l40, q⟩ := h
    obtain ⟨t, a, b, vs, rfl, ht, ha, hb, hA⟩ := dt_tree hd
    have fl : (farOf pl ts).length ≤ 1600 := by
      have h1 : (farOf pl ts).length ≤ (pairsOf pl ts).length := List.length_filter_le _ _
      have h2 := prs_len pl ts pl.length
      have h3 : pl.length * pl.length ≤ 40 * 40 := Nat.mul_le_mul l40 l40
      unfold pairsOf at h1
      omega
    refine ⟨_, (pss_cons (ps_set (i := 1) sc_law_ends_right.nd rfl (.inl rfl) (pe_lst pa_nil))
      (pss_cut (ps_for PassesOwn.never rfl (pi_tup (pe_c Call_farthest hr (by decide) rfl (pa_cons (pv 0) pa_nil))) (pg_tup rfl (pgs_cons (pg_name (i := 2) sc_law_ends_right.nd rfl (.inl rfl)) (pgs_cons (pg_name (i := 3) sc_law_ends_right.nd rfl (.inl rfl)) pgs_nil)))
        (pss_one (ps_set (i := 1) sc_law_ends_right.nd rfl (.inl rfl) (pe_op op_cat (pv 1) (pe_lst (pa_cons (pv 2) (pa_cons (pv 3) pa_nil)))))))
      (pss_cut (ps_for PassesOwn.never rfl (pi_tup (pe_ix ix_tup (pv 0) pe_int (fun _ _ => rfl))) (pg_name (i := 4) sc_law_ends_right.nd rfl (.inl rfl))
        (pss_cons (ps_set (i := 5) sc_law_ends_right.nd rfl (.inl rfl) (pe_c Clengths_from hr (by decide) rfl (pa_cons (pv 0) (pa_cons (pv 4) pa_nil))))
        (pss_one (ps_for PassesOwn.never rfl (pi_enumT (by rfl) T.enumerate (pa_cons (pv 5) pa_nil)) (pg_tup rfl (pgs_cons (pg_name (i := 6) sc_law_ends_right.nd rfl (.inl rfl)) (pgs_cons (pg_name (i := 7) sc_law_ends_right.nd rfl (.inl rfl)) pgs_nil)))
          (pss_one (ps_if (PW.pt (pw_and (pt_cmpR op_eq (pv 7) (pe_callB (cr_maxT (K := K) rfl) (by rfl) T.max bt_max (pa_cons (pv 5) pa_nil)) (nomark _)) (pw_and (pt_cmpR (op_neD (hd_of hr (by decide))) (pv 1) (pe_lst pa_nil) (nomark _)) (pw_and1 (pt_cmpR op_notIn_seq (pe_ix ix_tup (pe_ix ix_tup (pv 0) pe_int (fun _ _ => rfl)) (pv 6) (fun _ _ => rfl)) (pv 1) rfl)))))
            (pss_one (ps_ret pe_bl))
            pss_nil))))))
      (pss_one (ps_ret pe_bl))))), ?_⟩
    refine ⟨Nat.zero_le _, fun e0 ne0 => ?_⟩
    have S1 := same_new (o := .lst []) (Same.refl H) ne0
    have he0 : (upd H e0 (.lst [])) e0 = some (.lst (((endsOf ((farOf pl ts).take 0)).map S).map V.str)) := upd_same
    generalize upd H e0 (.lst []) = H1 at S1 he0
    -- the ends
    refine ⟨fun σ' H' => ∃ (x2 x3 : Option V) (e : Addr), σ' = [some (.ref t), some (.ref e), x2, x3, none, none, none, none] ∧ Same H H' ∧ H' e = some (.lst (((endsOf (farOf pl ts)).map S).map V.str)), ?_, fun σ' H2 hM => ?_⟩
    · refine ⟨_, rfl, .ref t, pl, ts, rfl, Dt.keep (TK.of S1) hd, fine, fun H2 r S2 h2 => ?_⟩
      obtain ⟨g, us, rfl, hg, hU⟩ := dt_tup h2 fun ne => by
        obtain ⟨d, hd⟩ := List.exists_mem_of_ne_nil _ ne
        refine ⟨d, hd, fun l z => ?_⟩
        obtain ⟨y, _, rfl⟩ := List.mem_map.mp hd
        cases z
      have ul := DtAll.len hU
      rw [List.length_map] at ul
      refine ⟨g, rfl, ⟨_, SqT.of hg⟩, for_tup (K := K) (a := g) (xs := us) (fun i σ' H' => ∃ (x2 x3 : Option V) (e : Addr), σ' = [some (.ref t), some (.ref e), x2, x3, none, none, none, none] ∧ Same H2 H' ∧ H' e = some (.lst (((endsOf ((farOf pl ts).take i)).map S).map V.str))) ⟨none, none, e0, rfl, Same.refl _, S2 _ _ he0⟩ (fun i σ' H' _ hP => ?_) (fun i y σ' H' hi hP => ?_) (fun σ' H' hP => ?_)⟩
      · obtain ⟨_, _, _, _, s, _⟩ := hP
        exact SqT.of (s _ _ hg)
      · obtain ⟨x2, x3, e, rfl, SM, he⟩ := hP
        obtain ⟨d, hdd, hy⟩ := DtAll.get hU hi
        rw [List.getElem?_map] at hdd
        cases ex : (farOf pl ts)[i]? with
        | none => rw [ex] at hdd; cases hdd
        | some x =>
          rw [ex] at hdd
          have ed : d = .tuple [.str (S x.2.1), .str (S x.2.2)] := (Option.some.inj hdd).symm
          subst ed
          have il := (List.getElem?_eq_some_iff.mp ex).1
          obtain ⟨o, xs, rfl, hxs, hx⟩ := dt_any hy
          cases hx with
          | cons i1 hx =>
          cases i1
          cases hx with
          | cons i2 hx =>
          cases i2
          cases hx
          refine ⟨o, _, rfl, (hxs.same SM).sq, rfl, _, _, rfl, _, _, rfl, rfl, ?_⟩
          refine ⟨_, rfl, _, rfl, _, rfl, (by show 2 ≤ sizeLine; decide), fun l nl => ?_⟩
          have S4 := same_new (o := .lst [.str (S x.2.1), .str (S x.2.2)]) (Same.refl H') nl
          refine ⟨e, l, _, _, rfl, rfl, S4 _ _ he, upd_same, sz_le (by rw [List.length_map, List.length_map, endsOf_len, List.length_take]; show _ + 2 ≤ _; omega), fun p np => ?_⟩
          refine ⟨_, _, p, rfl, same_new (SM.trans S4) np, ?_⟩
          rw [upd_same, List.take_add_one, ex]
          unfold endsOf
          rw [List.flatMap_append, List.map_append, List.map_append]
          rfl
      · obtain ⟨x2, x3, e, rfl, SM, he⟩ := hP
        rw [List.take_of_length_le (by omega)] at he
        exact ⟨x2, x3, e, rfl, S1.trans (S2.trans SM), he⟩
    obtain ⟨x2, x3, e, rfl, S2, he⟩ := hM
    have ha2 := ha.same S2
    have shE : SeqAt.shaped (.list ((endsOf (farOf pl ts)).map strD)) = true := shaped_of (n := 1) (Lay.lst fun d hd => by
      obtain ⟨l, hl, rfl⟩ := List.mem_map.mp hd
      obtain ⟨p, hp, hl⟩ := List.mem_flatMap.mp hl
      obtain ⟨m1, m2, _⟩ := far_top fine.tree hp
      refine .str ?_
      simp only [List.mem_cons, List.not_mem_nil, or_false] at hl
      rcases hl with z | z <;> rw [z]
      · exact fine.ok _ m1
      · exact fine.ok _ m2) (by omega)
    -- from each place
    refine ⟨fun σ' H' => Same H H', ?_, fun σ' H3 hM => q _ hM⟩
    refine ⟨_, rfl, t, _, 0, .ref a, rfl, rfl, SqT.of (S2 _ _ ht), atI_nat (j := 0) rfl, a, rfl, ⟨_, ha2.sq⟩, for_tup (K := K) (a := a) (xs := (pl.map S).map V.str) (fun i σ' H' => (∃ (x4 x5 x6 x7 : Option V), σ' = [some (.ref t), some (.ref e), x2, x3, x4, x5, x6, x7]) ∧ Same H2 H') ⟨⟨none, none, none, none, rfl⟩, Same.refl _⟩ (fun i σ' H' _ hP => (ha2.same hP.2).sq) (fun i y σ' H' hi hP => ?_) (fun σ' H' hP => S2.trans hP.2)⟩
    obtain ⟨⟨x4, x5, x6, x7, rfl⟩, SM⟩ := hP
    obtain ⟨u, hu, mu, rfl, _⟩ := at_name hi
    refine ⟨_, rfl, _, rfl, .ref t, pl, ts, u, rfl, Dt.keep (TK.of (S2.trans SM)) hd, fine, mu, fun H3 q3 S3 nq3 hq3 => ?_⟩
    have S13 := SM.trans S3
    refine ⟨_, rfl, q3, _, rfl, SqT.of hq3, ?_⟩
    refine for_enumT (K := K) (a := q3) (xs := pl.map fun x => .int (dist ts u x)) (fun j σ' H' => (∃ (x6 x7 : Option V), σ' = [some (.ref t), some (.ref e), x2, x3, some (.str (S u)), some (.ref q3), x6, x7]) ∧ Same H3 H') ⟨⟨_, _, rfl⟩, Same.refl _⟩ (fun j σ' H' hP => SqT.of (hP.2 _ _ hq3)) (fun j y σ' H' g hj hP ng => ?_) (fun σ' H' hP => by
      obtain ⟨⟨_, _, z⟩, s⟩ := hP
      exact ⟨⟨_, _, _, _, z⟩, S13.trans s⟩)
    obtain ⟨⟨x6, x7, rfl⟩, S4⟩ := hP
    rw [List.getElem?_map] at hj
    cases ex : pl[j]? with
    | none => rw [ex] at hj; cases hj
    | some x =>
      rw [ex] at hj
      have ey : y = .int (dist ts u x) := (Option.some.inj hj).symm
      subst ey
      have mx := List.mem_of_getElem? ex
      have S5 := same_new (o := .tup [.int (j : Nat), .int (dist ts u x)]) S4 ng
      have hg : (upd H' g (.tup [.int (j : Nat), .int (dist ts u x)])) g = some (.tup [.int (j : Nat), .int (dist ts u x)]) := upd_same
      generalize upd H' g (.tup [.int (j : Nat), .int (dist ts u x)]) = H5 at S5 hg
      refine ⟨g, _, rfl, SqT.of hg, rfl, _, _, rfl, _, _, rfl, rfl, ?_⟩
      have hq5 := S5 _ _ hq3
      rw [ints_of] at hq5
      refine ⟨_, rfl, _, rfl, q3, pl.map (dist ts u), rfl, SqT.of hq5, (by rw [List.length_map]; exact List.length_pos_iff.mpr fine.ne), fun m hm hle => ?_⟩
      refine ⟨rfl, _, rfl, ?_⟩
      refine ite2 (fun z => ?_) (fun z => iteF ⟨⟨_, _, rfl⟩, S5⟩)
      have z := V.int.inj (of_decide_eq_true z)
      have far : ∀ y ∈ pl, dist ts u y ≤ dist ts u x := fun y hy => by
        rw [z]
        exact hle _ (List.mem_map.mpr ⟨y, hy, rfl⟩)
      refine ⟨_, rfl, Nat.zero_le _, fun l nl => ?_⟩
      have S6 := same_new (o := .lst []) S5 nl
      have he6 := (S13.trans S6) _ _ he
      have s0 : SeqAt.shaped (.list []) = true := rfl
      refine ⟨_, _, .lst (SqL.of he6) (dpa_strs _ _), .lst (SqL.of upd_same) .nil, shE, s0, _, rfl, ?_⟩
      refine ite2 (fun z2 => ?_) (fun z2 => iteF ⟨⟨_, _, rfl⟩, S6⟩)
      have ne : farOf pl ts ≠ [] := fun e0 => by
        rw [e0] at z2
        have : PyData.eqv (.list ((endsOf []).map strD)) (.list []) = true := eqv_same s0
        rw [this] at z2
        cases z2
      have mem := end_of fine.tree mu mx far ne
      have f0 : ((pl.map S).map V.str)[j]? = some (.str (S x)) := by rw [List.getElem?_map, List.getElem?_map, ex]; rfl
      refine ⟨_, rfl, t, _, 0, .ref a, rfl, rfl, SqT.of ((S2.trans (S13.trans S6)) _ _ ht), atI_nat (j := 0) rfl, _, rfl, a, _, (j : Nat), _, rfl, rfl, ((ha2.same S13).same S6).sq, atI_nat f0, _, rfl, ?_⟩
      refine ⟨e, _, rfl, .inl (SqL.of he6), rfl, flat_strs _, _, rfl, ?_⟩
      have hin : inV (.str (S x)) (((endsOf (farOf pl ts)).map S).map V.str) = true := by
        rw [inV_strs]
        exact decide_eq_true mem
      exact iteF' (by rw [hin]; rfl) ⟨⟨_, _, rfl⟩, S6⟩
end
end Far

namespace Far
open PySem PySem.Spec PyProof.Rows L2
open LamX (Tabs ExtN)
open SX (S)
/-! ### lists and tuples of data in the heap -/
structure LK (H H' : Hp) : Prop where
  tk : TK H H'
  lst : ∀ b xs, H b = some (.lst xs) → H' b = some (.lst xs)
theorem LK.of {H H' : Hp} (s : Same H H') : LK H H' := ⟨TK.of s, fun b xs h => s b _ h⟩
theorem LK.ofN {H H' : Hp} (e : ExtN H H') : LK H H' := ⟨TK.ofN e, fun b xs h => e _ _ h (fun ps z => by cases z)⟩
theorem LK.trans {H H1 H2 : Hp} (a : LK H H1) (b : LK H1 H2) : LK H H2 := ⟨a.tk.trans b.tk, fun x xs h => b.lst x xs (a.lst x xs h)⟩
mutual
inductive Dq (H : Hp) : V → PyData → Prop
  | dt {v : V} {d : PyData} : Dt H v d → Dq H v d
  | lst {a : Addr} {xs : List V} {ds : List PyData} : H a = some (.lst xs) → DqAll H xs ds → Dq H (.ref a) (.list ds)
  | tup {a : Addr} {xs : List V} {ds : List PyData} : H a = some (.tup xs) → DqAll H xs ds → Dq H (.ref a) (.tuple ds)
inductive DqAll (H : Hp) : List V → List PyData → Prop
  | nil : DqAll H [] []
  | cons {v : V} {vs : List V} {d : PyData} {ds : List PyData} : Dq H v d → DqAll H vs ds → DqAll H (v :: vs) (d :: ds)
end
mutual
theorem Dq.keep {H H' : Hp} (t : LK H H') : ∀ {v : V} {d : PyData}, Dq H v d → Dq H' v d
  | _, _, .dt a => .dt (Dt.keep t.tk a)
  | _, _, .lst a b => .lst (t.lst _ _ a) (DqAll.keep t b)
  | _, _, .tup a b => .tup (t.tk.tup _ _ a) (DqAll.keep t b)
theorem DqAll.keep {H H' : Hp} (t : LK H H') : ∀ {vs : List V} {ds : List PyData}, DqAll H vs ds → DqAll H' vs ds
  | _, _, .nil => .nil
  | _, _, .cons a b => .cons (Dq.keep t a) (DqAll.keep t b)
end
mutual
theorem Dq.dp {K : PySem.W.Frag} {H : Hp} : ∀ {v : V} {d : PyData}, Dq H v d → Dp K H v d
  | _, _, .dt a => Dt.dp a
  | _, _, .lst a b => .lst (SqL.of a) (DqAll.dp b)
  | _, _, .tup a b => .tup (SqT.of a) (DqAll.dp b)
theorem DqAll.dp {K : PySem.W.Frag} {H : Hp} : ∀ {vs : List V} {ds : List PyData}, DqAll H vs ds → DpAll K H vs ds
  | _, _, .nil => .nil
  | _, _, .cons a b => .cons (Dq.dp a) (DqAll.dp b)
end
theorem DqAll.len {H : Hp} : ∀ {vs : List V} {ds : List PyData}, DqAll H vs ds → vs.length = ds.length
  | _, _, .nil => rfl
  | _, _, .cons _ b => congrArg (· + 1) (DqAll.len b)
theorem DqAll.app {H : Hp} : ∀ {vs ws : List V} {ds es : List PyData}, DqAll H vs ds → DqAll H ws es → DqAll H (vs ++ ws) (ds ++ es)
  | _, _, _, _, .nil, h => h
  | _, _, _, _, .cons a b, h => .cons a (DqAll.app b h)
theorem DqAll.of {H : Hp} : ∀ {vs : List V} {ds : List PyData}, DtAll H vs ds → DqAll H vs ds
  | _, _, .nil => .nil
  | _, _, .cons a b => .cons (.dt a) (DqAll.of b)
/-- a list of data at an address -/
def Lq (H : Hp) (l : Addr) (ds : List PyData) : Prop := ∃ xs : List V, H l = some (.lst xs) ∧ DqAll H xs ds
theorem Lq.keep {H H' : Hp} {l : Addr} {ds : List PyData} (h : Lq H l ds) (t : LK H H') : Lq H' l ds := by
  obtain ⟨xs, a, b⟩ := h
  exact ⟨xs, t.lst _ _ a, DqAll.keep t b⟩
theorem Lq.new {H : Hp} {p : Addr} {xs : List V} {ds : List PyData} (h : DqAll H xs ds) (n : H p = none) : Lq (upd H p (.lst xs)) p ds := ⟨xs, upd_same, DqAll.keep (LK.of (same_new (Same.refl _) n)) h⟩
theorem Lq.mk {H : Hp} {p : Addr} {xs : List V} {ds : List PyData} (h : DqAll H xs ds) (n : H p = none) : ∃ H' : Hp, H' = upd H p (.lst xs) ∧ Same H H' ∧ Lq H' p ds := ⟨_, rfl, same_new (Same.refl _) n, Lq.new h n⟩
theorem cat_lq {H : Hp} {l1 l2 : Addr} {ds es : List PyData} {Q : VK} (h1 : Lq H l1 ds) (h2 : Lq H l2 es) (sz : ds.length + es.length ≤ 100000) (k : ∀ p H', Same H H' → Lq H' p (ds ++ es) → Q (.ref p) H') : rCat (.ref l1) (.ref l2) H Q := by
  obtain ⟨xs, a1, b1⟩ := h1
  obtain ⟨ys, a2, b2⟩ := h2
  have e1 := b1.len
  have e2 := b2.len
  exact ⟨l1, l2, _, _, rfl, rfl, a1, a2, by rw [e1, e2]; exact sz_le sz, fun p np => k p _ (same_new (Same.refl _) np) (Lq.new (DqAll.app b1 b2) np)⟩
/-- the heap without one address -/
def wout (H : Hp) (D : Addr) : Hp := fun c => if c = D then none else H c
theorem wout_to {H : Hp} (D : Addr) : Same (wout H D) H := fun c o h => by
  unfold wout at h
  by_cases e : c = D
  · rw [if_pos e] at h; cases h
  · rwa [if_neg e] at h
theorem wout_of {H H' : Hp} {D : Addr} (s : Same H H') (n : H D = none) : Same H (wout H' D) := fun c o h => by
  unfold wout
  have e : ¬ c = D := fun z => by rw [z, n] at h; cases h
  rw [if_neg e]
  exact s c o h
theorem wout_same {H H' : Hp} {D : Addr} (s : Same H H') : Same (wout H D) (wout H' D) := fun c o h => by
  unfold wout at *
  by_cases e : c = D
  · rw [if_pos e] at h; cases h
  · rw [if_neg e] at h ⊢
    exact s c o h
theorem wout_upd {H : Hp} {D : Addr} {o : HO} : wout (upd H D o) D = wout H D := funext fun c => by
  unfold wout
  by_cases e : c = D
  · rw [if_pos e, if_pos e]
  · rw [if_neg e, if_neg e, upd_ne e]
theorem wout_at {H : Hp} {D c : Addr} {o : HO} (h : H c = some o) (n : c ≠ D) : wout H D c = some o := by
  unfold wout
  rw [if_neg n]
  exact h
theorem wout_tk {H : Hp} {D : Addr} {xs : List V} (h : H D = some (.lst xs)) : TK H (wout H D) := by
  refine ⟨?_, ?_⟩
  · intro b ys hb
    exact wout_at hb fun z => by rw [z, h] at hb; cases hb
  · intro b o u hb
    exact wout_at hb fun z => by rw [z, h] at hb; cases hb
/-! ### sorted of a tuple of texts, of lists of texts -/
theorem mt_indexL {X : Cx} {K : PySem.W.Frag} (eK : X.K = K := by rfl) : MtR X "list.index" (rIndex K) := by subst eK; exact mt_index
def rSortedN (K : PySem.W.Frag) : List V → Hp → VK → Prop := fun vs H Q => ∃ (a : Addr) (ls : List Nm), vs = [V.ref a] ∧ SqT K H a ((ls.map S).map V.str) ∧ ls.length ≤ 1000 ∧ ∀ p, H p = none → Q (.ref p) (upd H p (.lst (((ls.mergeSort leN).map S).map V.str)))
theorem strs_each : ∀ {ls : List Nm} {us : List Value}, Vals ((ls.map S).map V.str) us → PySem.W.EachIs (fun u l => ∃ t, u = Value.str (S l) t) us ls
  | [], [], .nil => .nil
  | _ :: _, _ :: _, .cons h t => .cons h (strs_each t)
theorem each_strs {us : List Value} {ls : List Nm} (h : PySem.W.EachIs (fun u l => ∃ t, u = Value.str (S l) t) us ls) : Vals ((ls.map S).map V.str) us := by
  induction h with
  | nil => exact .nil
  | cons e _ ih => exact .cons e ih
theorem each_imp {R R' : Value → Nm → Prop} (f : ∀ u l, R u l → R' u l) {us : List Value} {ls : List Nm} (h : PySem.W.EachIs R us ls) : PySem.W.EachIs R' us ls := by
  induction h with
  | nil => exact .nil
  | cons e _ ih => exact .cons (f _ _ e) ih
theorem leN_data : (PySem.W.dataLe false strD : Nm → Nm → Bool) = leN := PySem.W.dataLe_str fun z : Nm => S z
theorem cr_sortedN {X : Cx} {K : PySem.W.Frag} (hr : Room 1 X.A) (eK : X.K = K := by rfl) : CallR X (.builtin "sorted") (rSortedN K) := by
  subst eK
  intro pins s σ H vs us Q I r h
  obtain ⟨a, ls, rfl, hs, small, q⟩ := h
  obtain ⟨its, rv, ⟨o, ho, hc, n, hd⟩, hz⟩ := I.tuple hs
  rw [Vals.ref1 r]
  have en : its.length = ls.length := by rw [← rv.length, List.length_map, List.length_map]
  have fits : ls.length ≤ sizeLine := sz_le (by omega)
  refine Calls.call_function_entry kind_sorted plain_sorted entry_sorted (args_sorted1 _) ?_
  unfold Builtin.«sorted»
  refine wpAny_bind (m := checkCount "sorted" 1 1 _) (wpAny_pure ?_)
  refine wpAny_bind (wpAny_collect_seq a (.inr rfl) ho hc hd (fun g keep => ?_) (by rw [List.size_toArray, en]; exact fits))
  have J : Inv X pins σ H { s with heap := g } := I.kept (t' := s.toks) keep
  refine wpAny_bind (wpAny_newList ?_ (by simp only [List.toList_toArray]; rw [en]; exact fits))
  have new : (g.push (seqObj "list" its.toArray 0)).get? g.objs.size = some (seqObj "list" its.toArray 0) := Heap.get?_push_size _ rfl
  show wpAny _ _ _ _ _ { s with heap := g.push (seqObj "list" its.toArray 0) }
  refine wpAny_bind (wpAny_holding (PySem.W.list_sort_data (s := { s with heap := g.push (seqObj "list" its.toArray 0) }) (R := fun u l => ∃ t, u = Value.str (S l) t) (bs := ls) (enc := strD) new (strs_each rv) (each_imp (fun u l ⟨t, e⟩ => ⟨[], by rw [e]; exact .str _ _, List.not_mem_nil⟩) (strs_each rv)) (fun d hd d' hd' => ?_) (.inr fun d hd => ?_) fits (fun b hb => ?_) fun out ol oe => ?_))
  · obtain ⟨x, _, rfl⟩ := List.mem_map.mp hd
    obtain ⟨y, _, rfl⟩ := List.mem_map.mp hd'
    rfl
  · obtain ⟨x, _, rfl⟩ := List.mem_map.mp hd
    exact ⟨(by intro z; cases z), fun xs z => by cases z⟩
  · have := hr.un
    have e1 : X.A.in1.units = X.A.units + 1 := rfl
    show _ + 0 < _
    omega
  · obtain ⟨e', at'⟩ := sortedHeap_at (vs := its) (out := out.toArray) new
    rw [leN_data] at oe
    refine wpAny_pure ⟨_, rfl, .ref g.objs.size, upd H g.objs.size (.lst (((ls.mergeSort leN).map S).map V.str)), J.laid (t' := s.toks) (fun b u e => ?_) (Nat.le_refl _)
      (show ObjOk X.prog X.w _ _ _ (.lst (((ls.mergeSort leN).map S).map V.str)) from ⟨by rw [List.length_map, List.length_map, List.length_mergeSort]; exact fits, out, e', each_strs oe, at'⟩), rfl, q _ (J.hok.fresh (Nat.le_refl _))⟩
    have lt : b < g.objs.size := Heap.lt_size e
    rw [sortedHeap_old (Nat.ne_of_lt lt) (by rw [size_push']; exact Nat.lt_succ_of_lt lt)]
    exact Heap.get?_push_of_some _ e
theorem leN_ms (a b : Nm) : [a, b].mergeSort leN = two a b := ms_two leN a b
/-- rows of texts: who is not below and not above is the same -/
theorem row_step (a b : Nm) (as bs : List Nm) : PySem.W.rowLt (strD a :: as.map strD) (strD b :: bs.map strD) = if a = b then PySem.W.rowLt (as.map strD) (bs.map strD) else decide ((S a).cps.toList < (S b).cps.toList) := by
  unfold PySem.W.rowLt
  rw [PySem.W.dataLt_cons (by simp [PySem.W.alike, strD])]
  show (if (S a == S b) = true then _ else PySem.W.dataLt (.str (S a)) (.str (S b))) = _
  rw [PySem.W.dataLt_str]
  by_cases c : a = b
  · rw [if_pos c, if_pos (by rw [c]; exact beq_self_eq_true _)]
  · rw [if_neg c, if_neg fun z => c (SX.S_inj (eq_of_beq z))]
theorem row_anti : ∀ {as bs : List Nm}, as.length = bs.length → PySem.W.rowLt (as.map strD) (bs.map strD) = false → PySem.W.rowLt (bs.map strD) (as.map strD) = false → as = bs
  | [], [], _, _, _ => rfl
  | a :: as, b :: bs, l, h1, h2 => by
    rw [List.map_cons, List.map_cons, row_step] at h1 h2
    by_cases c : a = b
    · subst c
      rw [if_pos rfl] at h1 h2
      rw [row_anti (by simpa using l) h1 h2]
    · rw [if_neg c] at h1
      rw [if_neg fun z => c z.symm] at h2
      have h1 := of_decide_eq_false h1
      have h2 := of_decide_eq_false h2
      exact absurd (leN_anti (decide_eq_true (List.not_lt.mp h2)) (decide_eq_true (List.not_lt.mp h1))) c
def rowD (z : List Nm) : PyData := .list (z.map strD)
/-- two lists of such rows, one a permutation of the other, are the same when they are sorted -/
theorem rows_same {bs cs : List (V × PyData)} {X Y : List (List Nm)} (hb : bs.map (·.2) = X.map rowD) (hc : cs.map (·.2) = Y.map rowD) (pm : X.Perm Y) (l2 : ∀ z ∈ X, z.length = 2) :
    (bs.mergeSort (PySem.W.dataLe false (·.2))).map (·.2) = (cs.mergeSort (PySem.W.dataLe false (·.2))).map (·.2) := by
  have one : ∀ ds : List (V × PyData), (ds.mergeSort (PySem.W.dataLe false (·.2))).map (·.2) = (ds.map (·.2)).mergeSort (PySem.W.dataLe false id) := fun ds => List.map_mergeSort fun a _ b _ => rfl
  rw [one, one, hb, hc]
  have T := PySem.W.sortLe_total (PyProof.Rows.listOrd PyProof.Rows.itemOrd) false fun b : PyData => PySem.W.keyToks (id b)
  have tr : ∀ a b c : PyData, PySem.W.dataLe false id a b = true → PySem.W.dataLe false id b c = true → PySem.W.dataLe false id a c = true := T.trans
  have to : ∀ a b : PyData, (PySem.W.dataLe false id a b || PySem.W.dataLe false id b a) = true := fun a b => by
    rw [Bool.or_eq_true]
    exact T.total a b
  have p := pm.map rowD
  refine List.Perm.eq_of_pairwise (le := fun a b => PySem.W.dataLe false id a b = true) (fun a b ha hb q1 q2 => ?_) (List.pairwise_mergeSort tr to _) (List.pairwise_mergeSort tr to _) ((List.mergeSort_perm _ _).trans (p.trans (List.mergeSort_perm _ _).symm))
  have ha := List.mem_mergeSort.mp ha
  have hb := p.mem_iff.mpr (List.mem_mergeSort.mp hb)
  obtain ⟨x, hx, rfl⟩ := List.mem_map.mp ha
  obtain ⟨y, hy, rfl⟩ := List.mem_map.mp hb
  have lt : ∀ u v : List Nm, PySem.W.dataLe false id (rowD u) (rowD v) = !PySem.W.rowLt (v.map strD) (u.map strD) := fun u v => by
    rw [PySem.W.dataLe_eq]
    show (!PySem.W.dataLt (.list (v.map strD)) (.list (u.map strD))) = _
    rw [PySem.W.dataLt_list]
    rfl
  rw [lt, Bool.not_eq_true'] at q1 q2
  rw [row_anti ((l2 x hx).trans (l2 y hy).symm) q2 q1]
end Far

namespace Far
open PySem PySem.Spec PyProof.Rows L2
open SX (S)
/-! ### called otherwise, turned, so many times as long -/
def oth (c : Nm → Nm) (m : Int) (e : Tie) : Tie := (c e.2.1, c e.1, e.2.2 * m)
theorem Grown.oth {c : Nm → Nm} {m : Int} (m1 : 1 ≤ m) {os : List Nm} {es : List Tie} (g : Grown os es) : (∀ x ∈ os, ∀ y ∈ os, c x = c y → x = y) → (∀ e ∈ es, e.2.2 * m ≤ 1000000) → Grown (os.map c) (es.map (oth c m)) := by
  induction g with
  | one a => exact fun _ _ => .one (c a)
  | @leaf os es a b k e0 g ha hbn he k1 k2 ih =>
    intro inj le
    rw [List.map_append, List.map_append]
    have hk : k * m ≤ 1000000 := by
      have := le e0 (List.mem_append_right _ (List.mem_singleton.mpr rfl))
      rcases he with z | z <;> · rw [z] at this; exact this
    have hk1 : 1 ≤ k * m := by
      have := Int.mul_le_mul k1 m1 (by omega) (by omega)
      omega
    refine .leaf (a := c a) (k := k * m) (ih (fun x hx y hy => inj x (List.mem_append_left _ hx) y (List.mem_append_left _ hy)) fun e h => le e (List.mem_append_left _ h)) (List.mem_map_of_mem ha) (fun z => ?_) ?_ hk1 hk
    · obtain ⟨y, hy, e⟩ := List.mem_map.mp z
      have := inj y (List.mem_append_left _ hy) b (by simp) e
      exact hbn (this ▸ hy)
    · rcases he with e | e <;> rw [e]
      · exact .inr rfl
      · exact .inl rfl
theorem Way.oth {c : Nm → Nm} {m : Int} {pl : List Nm} {ts ts' : List Tie} (ht : ∀ e ∈ ts, e.1 ∈ pl ∧ e.2.1 ∈ pl) (inj : ∀ x ∈ pl, ∀ y ∈ pl, c x = c y → x = y) (sub : ∀ e ∈ ts, oth c m e ∈ ts') {u v : Nm} {p : List Nm} {L : Int} (h : Way ts u v p L) (hu : u ∈ pl) : Way ts' (c u) (c v) (p.map c) (L * m) := by
  induction h with
  | nil =>
    rw [Int.zero_mul]
    exact .nil
  | @snoc v w p L k h1 ha hn ih =>
    rw [List.map_append, Int.add_mul]
    refine .snoc ih (ha.elim (fun z => .inr (sub _ z)) fun z => .inl (sub _ z)) fun z => ?_
    obtain ⟨y, hy, e⟩ := List.mem_map.mp z
    have yp := h1.inside ht hu y hy
    have wp : w ∈ pl := by
      rcases ha with h | h
      · exact (ht _ h).2
      · exact (ht _ h).1
    exact hn (inj y yp w wp e ▸ hy)
structure Oth (c : Nm → Nm) (m : Int) (pl : List Nm) (ts : List Tie) (pl' : List Nm) (ts' : List Tie) : Prop where
  F : Fine pl ts
  F' : Fine pl' ts'
  m1 : 1 ≤ m
  inj : ∀ x ∈ pl, ∀ y ∈ pl, c x = c y → x = y
  pm : pl'.Perm (pl.map c)
  pt : ts'.Perm (ts.map (oth c m))
theorem oth_tree {c : Nm → Nm} {m : Int} (m1 : 1 ≤ m) {pl pl' : List Nm} {ts ts' : List Tie} (h : IsTree pl ts) (inj : ∀ x ∈ pl, ∀ y ∈ pl, c x = c y → x = y) (le : ∀ e ∈ ts, e.2.2 * m ≤ 1000000) (pm : pl'.Perm (pl.map c)) (pt : ts'.Perm (ts.map (oth c m))) : IsTree pl' ts' := by
  obtain ⟨os, es, g, p1, p2⟩ := h
  exact ⟨_, _, g.oth m1 (fun x hx y hy => inj x (p1.mem_iff.mpr hx) y (p1.mem_iff.mpr hy)) (fun e he => le e (p2.mem_iff.mpr he)), pm.trans (p1.map c), pt.trans (p2.map _)⟩
section
variable {c : Nm → Nm} {m : Int} {pl pl' : List Nm} {ts ts' : List Tie}
theorem Oth.way (z : Oth c m pl ts pl' ts') {u v : Nm} (hu : u ∈ pl) (hv : v ∈ pl) : dist ts' (c u) (c v) = dist ts u v * m :=
  (z.F'.tree.is_way ((z.F.tree.the_way hu hv).oth (fun e he => ⟨(z.F.tree.ties e he).1, (z.F.tree.ties e he).2.1⟩) z.inj (fun e he => z.pt.mem_iff.mpr (List.mem_map_of_mem he)) hu)).2
theorem Oth.mem (z : Oth c m pl ts pl' ts') {y : Nm} : y ∈ pl' ↔ ∃ x ∈ pl, c x = y := by
  rw [z.pm.mem_iff, List.mem_map]
theorem dist_nn {pl : List Nm} {ts : List Tie} (F : IsTree pl ts) {u v : Nm} (hu : u ∈ pl) (hv : v ∈ pl) : 0 ≤ dist ts u v := by
  have h := (F.over hu hu hv).1
  rw [(F.dist_self u).1, ← (F.dist_symm hu hv).1] at h
  omega
/-- the greatest length that is told -/
theorem far_num (F : Fine pl ts) : ∃ (n : Int) (a b : Nm), farD pl ts = triD (n, a, b) ∧ a ∈ pl ∧ b ∈ pl ∧ (∃ u ∈ pl, ∃ v ∈ pl, dist ts u v = n) ∧ ∀ y ∈ pl, ∀ z ∈ pl, dist ts y z ≤ n := by
  cases hb : byFar pl ts with
  | nil =>
    have hm : pl.headD [] ∈ pl := by
      cases hp : pl with
      | nil => exact absurd hp F.ne
      | cons a r => exact List.mem_cons_self
    refine ⟨0, pl.headD [], pl.headD [], (far_none hb).1, hm, hm, ⟨_, hm, _, hm, (F.tree.dist_self _).1⟩, fun y hy w hw => ?_⟩
    by_cases e : y = w
    · rw [e, (F.tree.dist_self w).1]
      exact Int.le_refl _
    · have : ∀ q : Tri, q ∈ prsR ts pl → False := fun q hq => by
        have := (far_perm pl ts).mem_iff.mpr (by rw [pairsOf_rec]; exact hq)
        rw [hb] at this
        cases this
      exact (prsR_has ts hy hw e).elim (fun q => (this _ q).elim) fun q => (this _ q).elim
  | cons x r =>
    obtain ⟨_, hf, hD⟩ := far_first hb
    have xm : x ∈ farOf pl ts := by
      rw [hf, hb, List.filter_cons_of_pos (by simp)]
      exact List.mem_cons_self
    obtain ⟨a, b, e, _, _, top⟩ := far_top F.tree xm
    refine ⟨x.1, x.2.1, x.2.2, hD, a, b, ⟨_, a, _, b, e.symm⟩, fun y hy w hw => ?_⟩
    by_cases k : y = w
    · rw [k, (F.tree.dist_self w).1, e]
      exact dist_nn F.tree a b
    · exact top y hy w hw k
theorem Oth.num (z : Oth c m pl ts pl' ts') {n n' : Int} (h : (∃ u ∈ pl, ∃ v ∈ pl, dist ts u v = n) ∧ ∀ y ∈ pl, ∀ z ∈ pl, dist ts y z ≤ n) (h' : (∃ u ∈ pl', ∃ v ∈ pl', dist ts' u v = n') ∧ ∀ y ∈ pl', ∀ z ∈ pl', dist ts' y z ≤ n') : n' = n * m := by
  obtain ⟨⟨u, hu, v, hv, e⟩, top⟩ := h
  obtain ⟨⟨u', hu', v', hv', e'⟩, top'⟩ := h'
  obtain ⟨x, hx, rfl⟩ := z.mem.mp hu'
  obtain ⟨y, hy, rfl⟩ := z.mem.mp hv'
  have h1 := top' _ (z.mem.mpr ⟨u, hu, rfl⟩) _ (z.mem.mpr ⟨v, hv, rfl⟩)
  rw [z.way hu hv, e] at h1
  rw [z.way hx hy] at e'
  have h2 : dist ts x y * m ≤ n * m := Int.mul_le_mul_of_nonneg_right (top x hx y hy) (by have := z.m1; omega)
  omega
/-! ### the farthest pairs, unordered -/
noncomputable def FS (f : Nm → Nm) (pl : List Nm) (ts : List Tie) : List (List Nm) := (farOf pl ts).map fun x => two (f x.2.1) (f x.2.2)
theorem two_swap (a b : Nm) : two a b = two b a := two_eq.mpr (.inr rfl)
theorem two_len (a b : Nm) : (two a b).length = 2 := by
  unfold two
  split <;> rfl
theorem pair_ne (F : IsTree pl ts) {x : Tri} (h : x ∈ pairsOf pl ts) : pl.idxOf x.2.1 < pl.idxOf x.2.2 := by
  rw [pairsOf_rec] at h
  exact prsR_lt ts F.nodup h
theorem FS_mem (F : IsTree pl ts) {f : Nm → Nm} {q : List Nm} : q ∈ FS f pl ts ↔ ∃ u ∈ pl, ∃ v ∈ pl, u ≠ v ∧ (∀ y ∈ pl, ∀ w ∈ pl, y ≠ w → dist ts y w ≤ dist ts u v) ∧ q = two (f u) (f v) := by
  constructor
  · intro h
    obtain ⟨x, hx, rfl⟩ := List.mem_map.mp h
    obtain ⟨a, b, e, _, _, top⟩ := far_top F hx
    have lt := pair_ne F (List.mem_filter.mp hx).1
    refine ⟨_, a, _, b, fun z => by rw [z] at lt; omega, fun y hy w hw k => ?_, rfl⟩
    rw [← e]
    exact top y hy w hw k
  · rintro ⟨u, hu, v, hv, ne, top, rfl⟩
    have all : ∀ q ∈ pairsOf pl ts, q.1 ≤ dist ts u v := fun q hq => by
      obtain ⟨a, b, e⟩ := mem_pairs hq
      have lt := pair_ne F hq
      rw [e]
      exact top _ a _ b fun z => by rw [z] at lt; omega
    rcases prsR_has ts hu hv ne with p | p
    · have p : (dist ts u v, u, v) ∈ pairsOf pl ts := by rw [pairsOf_rec]; exact p
      have hb : best (pairsOf pl ts) = dist ts u v := best_is (List.mem_map.mpr ⟨_, p, rfl⟩) fun y hy => by
        obtain ⟨q, hq, rfl⟩ := List.mem_map.mp hy
        exact all q hq
      exact List.mem_map.mpr ⟨_, List.mem_filter.mpr ⟨p, by rw [hb]; exact beq_self_eq_true _⟩, rfl⟩
    · have p : (dist ts v u, v, u) ∈ pairsOf pl ts := by rw [pairsOf_rec]; exact p
      have sy := (F.dist_symm hu hv).1
      have hb : best (pairsOf pl ts) = dist ts v u := best_is (List.mem_map.mpr ⟨_, p, rfl⟩) fun y hy => by
        obtain ⟨q, hq, rfl⟩ := List.mem_map.mp hy
        have := all q hq
        omega
      exact List.mem_map.mpr ⟨_, List.mem_filter.mpr ⟨p, by rw [hb]; exact beq_self_eq_true _⟩, two_swap _ _⟩
theorem FS_nd (F : IsTree pl ts) {f : Nm → Nm} (inj : ∀ x ∈ pl, ∀ y ∈ pl, f x = f y → x = y) : (FS f pl ts).Nodup := by
  have nd : ((pairsOf pl ts).map (·.2)).Nodup := by
    rw [pairsOf_rec]
    exact prsR_nd ts F.nodup
  have nd2 : ((farOf pl ts).map (·.2)).Nodup := nd.sublist (List.filter_sublist.map _)
  refine List.pairwise_map.mpr (List.Pairwise.imp_of_mem (fun {x y} hx hy ne e => ?_) (List.pairwise_map.mp nd2))
  obtain ⟨xa, xb, _⟩ := far_top F hx
  obtain ⟨ya, yb, _⟩ := far_top F hy
  have lx := pair_ne F (List.mem_filter.mp hx).1
  have ly := pair_ne F (List.mem_filter.mp hy).1
  rcases two_eq.mp e with z | z
  · obtain ⟨z1, z2⟩ := Prod.mk.inj z
    exact ne (Prod.ext (inj _ xa _ ya z1) (inj _ xb _ yb z2))
  · obtain ⟨z1, z2⟩ := Prod.mk.inj z
    have e1 := inj _ xa _ yb z1
    have e2 := inj _ xb _ ya z2
    rw [e1, e2] at lx
    omega
theorem Oth.pairs (z : Oth c m pl ts pl' ts') : (FS c pl ts).Perm (FS id pl' ts') := by
  refine (List.perm_ext_iff_of_nodup (FS_nd z.F.tree z.inj) (FS_nd z.F'.tree fun x _ y _ e => e)).mpr fun q => ?_
  rw [FS_mem z.F.tree, FS_mem z.F'.tree]
  have le : ∀ {a b : Int}, a * m ≤ b * m ↔ a ≤ b := Int.mul_le_mul_right (by have := z.m1; omega)
  constructor
  · rintro ⟨u, hu, v, hv, ne, top, rfl⟩
    refine ⟨c u, z.mem.mpr ⟨u, hu, rfl⟩, c v, z.mem.mpr ⟨v, hv, rfl⟩, fun e => ne (z.inj u hu v hv e), fun y' hy' w' hw' k => ?_, rfl⟩
    obtain ⟨y, hy, rfl⟩ := z.mem.mp hy'
    obtain ⟨w, hw, rfl⟩ := z.mem.mp hw'
    rw [z.way hy hw, z.way hu hv]
    exact le.mpr (top y hy w hw fun e => k (by rw [e]))
  · rintro ⟨u', hu', v', hv', ne, top, rfl⟩
    obtain ⟨u, hu, rfl⟩ := z.mem.mp hu'
    obtain ⟨v, hv, rfl⟩ := z.mem.mp hv'
    refine ⟨u, hu, v, hv, fun e => ne (by rw [e]), fun y hy w hw k => ?_, rfl⟩
    have := top _ (z.mem.mpr ⟨y, hy, rfl⟩) _ (z.mem.mpr ⟨w, hw, rfl⟩) fun e => k (z.inj y hy w hw e)
    rw [z.way hy hw, z.way hu hv] at this
    exact le.mp this
theorem FS_two {f : Nm → Nm} : ∀ q ∈ FS f pl ts, q.length = 2 := fun q hq => by
  obtain ⟨x, _, rfl⟩ := List.mem_map.mp hq
  exact two_len _ _
end
end Far

namespace Far
open PySem PySem.Spec PyProof.Rows L2
open LamX (Tabs ExtN)
open C8 (pss_cut tCut)
open SX (S)
theorem tie_at {H : Hp} {i : Nat} {vs : List V} {ts : List Tie} {v : V} (h : DtAll H vs (ts.map tieD)) (hi : vs[i]? = some v) : ∃ (t : Tie) (p : Addr), ts[i]? = some t ∧ v = .ref p ∧ H p = some (.tup [.str (S t.1), .str (S t.2.1), .int t.2.2]) := by
  obtain ⟨d, hd, hv⟩ := DtAll.get h hi
  rw [List.getElem?_map] at hd
  cases e : ts[i]? with
  | none =>
    rw [e] at hd
    cases hd
  | some t =>
    rw [e] at hd
    have ed : d = tieD t := (Option.some.inj hd).symm
    subst ed
    obtain ⟨p, rfl, hp⟩ := dt_tie hv
    exact ⟨t, p, rfl, rfl, hp⟩
theorem SeedAt.sameX {H H' : Hp} {d : Addr} {n : Nat} (h : SeedAt H d n) (s : Same H H') : SeedAt H' d n := by
  obtain ⟨a, f, k, m, h1, h2⟩ := h
  exact ⟨a, f, k, m, s _ _ h1, h2⟩
theorem dts_rev {H : Hp} : ∀ {vs : List V} {ds : List PyData}, DtAll H vs ds → DtAll H vs.reverse ds.reverse
  | [], [], .nil => .nil
  | v :: vs, d :: ds, .cons a b => by
    rw [List.reverse_cons, List.reverse_cons]
    exact DtAll.app (dts_rev b) (.cons a .nil)
theorem TupAt.tk {H H' : Hp} {a : Addr} {xs : List V} (h : TupAt H a xs) (t : TK H H') : TupAt H' a xs := h.elim (fun h => .inl (t.tup _ _ h)) fun ⟨o, e, h⟩ => .inr ⟨o, e, t.frz _ _ _ h⟩
theorem fn_of : ∀ {pl ls : List Nm}, pl.Nodup → ∃ c : Nm → Nm, ∀ (i : Nat) (l m : Nm), pl[i]? = some l → ls[i]? = some m → c l = m
  | [], _, _ => ⟨id, fun i l m e => by simp at e⟩
  | a :: r, [], _ => ⟨id, fun i l m _ e => by simp at e⟩
  | a :: r, b :: t, h => by
    obtain ⟨h1, h2⟩ := List.nodup_cons.mp h
    obtain ⟨c, hc⟩ := fn_of (pl := r) (ls := t) h2
    refine ⟨fun l => if l = a then b else c l, fun i l m e1 e2 => ?_⟩
    cases i with
    | zero =>
      have e1 : a = l := Option.some.inj e1
      have e2 : b = m := Option.some.inj e2
      rw [← e1, ← e2]
      exact if_pos rfl
    | succ i =>
      have e1 : r[i]? = some l := by simpa using e1
      have e2 : t[i]? = some m := by simpa using e2
      have n : l ≠ a := fun z => h1 (z ▸ List.mem_of_getElem? e1)
      show (if l = a then b else c l) = m
      rw [if_neg n]
      exact hc i l m e1 e2
theorem fn_map {pl ls : List Nm} {c : Nm → Nm} (hl : ls.length = pl.length) (hc : ∀ (i : Nat) (l m : Nm), pl[i]? = some l → ls[i]? = some m → c l = m) : pl.map c = ls := by
  apply List.ext_getElem?
  intro i
  rw [List.getElem?_map]
  cases e : pl[i]? with
  | none =>
    have := List.getElem?_eq_none_iff.mp e
    rw [List.getElem?_eq_none (by omega)]
    rfl
  | some l =>
    have lt := (List.getElem?_eq_some_iff.mp e).1
    have e2 : ls[i]? = some (ls[i]'(by omega)) := List.getElem?_eq_getElem _
    rw [e2]
    exact congrArg some (hc i l _ e e2)
theorem fn_inj {pl : List Nm} {c : Nm → Nm} (nd : (pl.map c).Nodup) : ∀ x ∈ pl, ∀ y ∈ pl, c x = c y → x = y := by
  intro x hx y hy e
  obtain ⟨i, hi, ei⟩ := List.getElem_of_mem hx
  obtain ⟨j, hj, ej⟩ := List.getElem_of_mem hy
  have : (pl.map c)[i]'(by simpa using hi) = (pl.map c)[j]'(by simpa using hj) := by
    rw [List.getElem_map, List.getElem_map, ei, ej, e]
  have ij := (List.getElem_inj nd).mp this
  subst ij
  exact ei.symm.trans ej
/-- where a name stands in the order: its number, and the new name of that number -/
theorem ord_at {os ns : List Nm} {c : Nm → Nm} (hl : ns.length = os.length) (hc : ∀ (i : Nat) (l m : Nm), os[i]? = some l → ns[i]? = some m → c l = m) {x : Nm} (hx : x ∈ os) : ∃ j : Nat, ((os.map S).map V.str)[j]? = some (.str (S x)) ∧ (∀ (m : Nat) (z : V), m < j → ((os.map S).map V.str)[m]? = some z → eqV z (.str (S x)) = false) ∧ ((ns.map S).map V.str)[j]? = some (.str (S (c x))) := by
  obtain ⟨h1, h2⟩ := idx_S hx
  have l := List.idxOf_lt_length_of_mem hx
  refine ⟨os.idxOf x, by rw [List.getElem?_map, h1]; rfl, fun m z hm hz => ?_, ?_⟩
  · have h2 := h2 m hm
    rw [List.getElem?_map] at hz
    cases e : (os.map S)[m]? with
    | none => rw [e] at hz; cases hz
    | some y =>
      rw [e] at hz h2
      cases Option.some.inj hz
      show (y == S x) = false
      exact beq_false_of_ne fun k => h2 (by rw [k])
  · obtain ⟨y, hy⟩ : ∃ y, ns[os.idxOf x]? = some y := ⟨_, List.getElem?_eq_getElem (by omega)⟩
    have ex : os[os.idxOf x]? = some x := by
      rw [List.getElem?_eq_getElem l, List.getElem_idxOf]
    rw [List.getElem?_map, List.getElem?_map, hy, hc _ _ _ ex hy]
    rfl
theorem dps_I {K : PySem.W.Frag} (H : Hp) : ∀ ns : List Int, DpAll K H (ns.map V.int) (ns.map PyData.int)
  | [] => .nil
  | n :: r => .cons (.int n) (dps_I H r)
theorem shaped_il (ls : List Int) : SeqAt.shaped (.list (ls.map PyData.int)) = true := shaped_of (n := 1) (Lay.lst fun d hd => by
  obtain ⟨i, _, rfl⟩ := List.mem_map.mp hd
  exact .int i) (by omega)
theorem alike_strs : ∀ xs ys : List Nm, PySem.W.alikeAll (xs.map strD) (ys.map strD) = true
  | [], _ => by cases ‹List Nm› <;> rfl
  | x :: xs, [] => rfl
  | x :: xs, y :: ys => by
    show (PySem.W.alike (strD x) (strD y) && PySem.W.alikeAll (xs.map strD) (ys.map strD)) = true
    rw [alike_strs xs ys]
    rfl
theorem rows_ok (X : List (List Nm)) : PySem.W.AllAlike (X.map rowD) ∧ PySem.W.Sortable (X.map rowD) := by
  constructor
  · intro d hd d' hd'
    obtain ⟨x, _, rfl⟩ := List.mem_map.mp hd
    obtain ⟨y, _, rfl⟩ := List.mem_map.mp hd'
    exact alike_strs x y
  · refine .inr fun d hd => ?_
    obtain ⟨x, _, rfl⟩ := List.mem_map.mp hd
    exact ⟨(by intro z; cases z), fun xs z => by cases z⟩
theorem row_dep (z : List Nm) : PyData.depth (rowD z) ≤ 8 := by
  have : PyData.depthAll (z.map strD) = 0 := dep_strs z
  show PyData.depthAll (z.map strD) + 1 ≤ 8
  omega
theorem pairs_dq {H : Hp} : ∀ {ws : List V} {ds : List PyData}, DqAll H ws ds → ∃ bs : List (V × PyData), bs.map (·.1) = ws ∧ bs.map (·.2) = ds ∧ ∀ b ∈ bs, Dq H b.1 b.2
  | [], [], .nil => ⟨[], rfl, rfl, fun b hb => by cases hb⟩
  | w :: ws, d :: ds, .cons a r => by
    obtain ⟨bs, e1, e2, e3⟩ := pairs_dq r
    refine ⟨(w, d) :: bs, by rw [← e1]; rfl, by rw [← e2]; rfl, fun b hb => ?_⟩
    rcases List.mem_cons.mp hb with e | e
    · rw [e]
      exact a
    · exact e3 b e
theorem dq_pairs {H : Hp} : ∀ {bs : List (V × PyData)}, (∀ b ∈ bs, Dq H b.1 b.2) → DqAll H (bs.map (·.1)) (bs.map (·.2))
  | [], _ => .nil
  | b :: bs, h => .cons (h b List.mem_cons_self) (dq_pairs fun x hx => h x (List.mem_cons_of_mem _ hx))
theorem dq_strs {H : Hp} {p : Addr} {z : List Nm} (h : H p = some (.lst ((z.map S).map V.str))) : Dq H (.ref p) (rowD z) := .lst h (DqAll.of (dt_strs H z))
abbrev s_law_otherwise_right : Stmt := topS 25
abbrev N_law_otherwise_right : List Str := ["seed", "tree", "places", "ties", "times", "left", "place", "order", "names", "turned", "one", "other", "length", "some", "end", "pair"]
theorem sc_law_otherwise_right : FnScope N_law_otherwise_right ["seed", "tree"] (defScope s_law_otherwise_right) := ⟨rfl, rfl, rfl, by decide +kernel, rfl, by decide +kernel, by decide +kernel⟩
section
variable {P : Program} {w : World} {K : PySem.W.Frag} {mg : Str → Option Value} {base : Heap}
def spOthR : Sp := fun vs H Q _ => ∃ (d : Addr) (v : V) (n : Nat) (pl : List Nm) (ts : List Tie), vs = [.ref d, v] ∧ SeedAt H d n ∧ n < 60000 ∧ Dt H v (treeD pl ts) ∧ Fine pl ts ∧ pl.length ≤ 30 ∧ ∀ H' : Hp, SmX d H H' → SeedAt H' d (n + 700) → Q (.bl true) H'
theorem ok_othr {f : Addr} {fd : FuncData} (F : Fun K "_law_otherwise_right" "_law_otherwise_right" s_law_otherwise_right f fd) (T : Txt10 mg) (C_law_draw : Cal P w K mg base 1 "_law_draw" spDraw) (C_law_name : Cal P w K mg base 2 "_law_name" spName) (Cfarthest : Cal P w K mg base 5 "farthest" spFarthest) (Call_farthest : Cal P w K mg base 6 "all_farthest" spAllFarthest) : FnOk P w K mg base CX0 7 f fd ["seed", "tree"] spOthR := by
  refine F.ok sc_law_otherwise_right (fun vs H Q E h => ?_) (fun cdv A outer s H vs Q E hr h => ?_)
  · obtain ⟨d, v, n, pl, ts, rfl, _⟩ := h
    rfl
  · obtain ⟨d, v, n, pl, ts, rfl, D0, hn, hd, fine, l30, q⟩ := h
    obtain ⟨t, a, b, vs, rfl, ht, ha, hb, hA⟩ := dt_tree hd
    have tl := fine.tree.len
    have nd := fine.tree.nodup
    have vl : vs.length = ts.length := by
      have := DtAll.len hA
      rwa [List.length_map] at this
    refine ⟨_, (pss_cons (ps_asg (pv 1) (pg_tup rfl (pgs_cons (pg_name (i := 2) sc_law_otherwise_right.nd rfl (.inl rfl)) (pgs_cons (pg_name (i := 3) sc_law_otherwise_right.nd rfl (.inl rfl)) pgs_nil))))
      (pss_cons (ps_set (i := 4) sc_law_otherwise_right.nd rfl (.inl rfl) (pe_op op_add pe_int (pe_c C_law_draw hr (by decide) rfl (pa_cons (pv 0) (pa_cons pe_int pa_nil)))))
      (pss_cons (ps_set (i := 5) sc_law_otherwise_right.nd rfl (.inr rfl) (pe_callTy call_list_of (by rfl) T.list bt_list (pa_cons (pv 2) pa_nil)))
      (pss_cons (ps_set (i := 7) sc_law_otherwise_right.nd rfl (.inr rfl) (pe_lc (own := [("place", 6)]) (g := gName 6) (tt := tYes) rfl sc_law_otherwise_right.nd (pi_tup (pv 2)) (blkOk_by (N := N_law_otherwise_right) (sc := defScope s_law_otherwise_right) (by decide +kernel)) (fun _ _ _ _ _ => pg_name (i := 6) sc_law_otherwise_right.nd rfl (Or.inl rfl)) (fun _ _ _ _ _ => pts_nil) (fun _ _ _ _ _ => (show PE _ _ (tBM K "list" rPopAt _ _) from pe_bm PySem.F.plainAttrs_list PySem.F.slot_list_pop PySem.F.type_list_pop mt_popAt (pv 5) (pa_cons (pe_c C_law_draw hr (by decide) rfl (pa_cons (pv 0) (pa_cons (pe_callB (lenK (K := K)) (by rfl) T.len bt_len (pa_cons (pv 5) pa_nil)) pa_nil))) pa_nil)))))
      (pss_cons (ps_set (i := 8) sc_law_otherwise_right.nd rfl (.inr rfl) (pe_lst pa_nil))
      (pss_cut (ps_for PassesOwn.never rfl (pi_tup (pv 2)) (pg_name (i := 6) sc_law_otherwise_right.nd rfl (.inl rfl))
        (pss_one (ps_expr (pe_bm PySem.F.plainAttrs_list PySem.F.slot_list_append PySem.F.type_list_append mt_append (pv 8) (pa_cons (pe_c C_law_name hr (by decide) rfl (pa_cons (pv 0) (pa_cons (pv 8) pa_nil))) pa_nil)))))
      (pss_cons (ps_set (i := 9) sc_law_otherwise_right.nd rfl (.inl rfl) (pe_lst pa_nil))
      (pss_cut (ps_for PassesOwn.never rfl (pi_tup (pv 3)) (pg_tup rfl (pgs_cons (pg_name (i := 10) sc_law_otherwise_right.nd rfl (.inl rfl)) (pgs_cons (pg_name (i := 11) sc_law_otherwise_right.nd rfl (.inl rfl)) (pgs_cons (pg_name (i := 12) sc_law_otherwise_right.nd rfl (.inl rfl)) pgs_nil))))
        (pss_one (ps_expr (pe_bm PySem.F.plainAttrs_list PySem.F.slot_list_append PySem.F.type_list_append mt_append (pv 9) (pa_cons (pe_tup (pa_cons (pe_ix ix_list (pv 8) (pe_bm PySem.F.plainAttrs_list PySem.F.slot_list_index PySem.F.type_list_index mt_index (pv 7) (pa_cons (pv 11) pa_nil)) (fun _ _ => rfl)) (pa_cons (pe_ix ix_list (pv 8) (pe_bm PySem.F.plainAttrs_list PySem.F.slot_list_index PySem.F.type_list_index mt_index (pv 7) (pa_cons (pv 10) pa_nil)) (fun _ _ => rfl)) (pa_cons (pe_op op_mul (pv 12) (pv 4)) pa_nil)))) pa_nil)))))
      (pss_cut (ps_if (pt_cmpR (op_neD (hd_of hr (by decide))) (pe_lc (own := [("one", 10), ("other", 11), ("length", 12)]) (g := gTup K 3 (gCons (gName 10) (gCons (gName 11) (gCons (gName 12) gNil))))  rfl sc_law_otherwise_right.nd (pi_list (pv 9)) (blkOk_by (N := N_law_otherwise_right) (sc := defScope s_law_otherwise_right) (by decide +kernel)) (fun _ _ _ _ _ => (pg_tup rfl (pgs_cons (pg_name (i := 10) sc_law_otherwise_right.nd rfl (.inl rfl)) (pgs_cons (pg_name (i := 11) sc_law_otherwise_right.nd rfl (.inl rfl)) (pgs_cons (pg_name (i := 12) sc_law_otherwise_right.nd rfl (.inl rfl)) pgs_nil))))) (fun _ _ _ _ _ => pts_one (pt_cmpR op_gt (pv 12) (pe_op op_pow pe_int pe_int) (nomark _))) (fun _ _ _ _ _ => (pv 12))) (pe_lst pa_nil) (nomark _))
        (pss_one (ps_ret pe_bl))
        pss_nil)
      (pss_cons (ps_set (i := 11) sc_law_otherwise_right.nd rfl (.inl rfl) (pe_tup (pa_cons (pe_tupleOf (by rfl) T.tuple (pv 8)) (pa_cons (pe_tupleOf (by rfl) T.tuple (pe_revL (pv 9))) pa_nil))))
      (pss_cut (ps_if (pt_cmpR op_ne (pe_ix ix_tup (pe_c Cfarthest hr (by decide) rfl (pa_cons (pv 11) pa_nil)) pe_int (fun _ _ => rfl)) (pe_op op_mul (pe_ix ix_tup (pe_c Cfarthest hr (by decide) rfl (pa_cons (pv 1) pa_nil)) pe_int (fun _ _ => rfl)) (pv 4)) (nomark _))
        (pss_one (ps_ret pe_bl))
        pss_nil)
      (pss_cons (ps_setLc (i := 13) (own := [("one", 10), ("end", 14)]) (g := gTup K 2 (gCons (gName 10) (gCons (gName 14) gNil))) (tt := tYes) rfl sc_law_otherwise_right.nd rfl rfl (sw_true rfl rfl rfl (by decide +kernel)) (pi_tup (pe_c Call_farthest hr (by decide) rfl (pa_cons (pv 1) pa_nil))) (blkOk_by (N := N_law_otherwise_right) (sc := defScope s_law_otherwise_right) (by decide +kernel)) (fun _ _ _ _ _ => (pg_tup rfl (pgs_cons (pg_name (i := 10) sc_law_otherwise_right.nd rfl (.inl rfl)) (pgs_cons (pg_name (i := 14) sc_law_otherwise_right.nd rfl (.inl rfl)) pgs_nil)))) (fun _ _ _ _ _ => pts_nil) (fun _ _ _ _ _ => (pe_callB (cr_sortedDL (K := K) (hr.mono (by decide))) (by rfl) T.sorted bt_sorted (pa_cons (pe_lst (pa_cons (pe_ix (ixl (K := K)) (pv 8) (show PE _ _ (tBM K "list" (rIndex K) _ _) from pe_bm PySem.F.plainAttrs_list PySem.F.slot_list_index PySem.F.type_list_index (mt_indexL (K := K)) (pv 7) (pa_cons (pv 10) pa_nil)) (fun _ _ => rfl)) (pa_cons (pe_ix (ixl (K := K)) (pv 8) (show PE _ _ (tBM K "list" (rIndex K) _ _) from pe_bm PySem.F.plainAttrs_list PySem.F.slot_list_index PySem.F.type_list_index (mt_indexL (K := K)) (pv 7) (pa_cons (pv 14) pa_nil)) (fun _ _ => rfl)) pa_nil))) pa_nil))))
      (pss_one (ps_ret (pe_cmpR (op_eqD (hd_of hr (by decide))) (pe_callB (cr_sortedDL (K := K) (hr.mono (by decide))) (by rfl) T.sorted bt_sorted (pa_cons (pv 13) pa_nil)) (pe_callB (cr_sortedDL (K := K) (hr.mono (by decide))) (by rfl) T.sorted bt_sorted (pa_cons (pe_lc (own := [("pair", 15)]) (g := gName 15) (tt := tYes) rfl sc_law_otherwise_right.nd (pi_tup (pe_c Call_farthest hr (by decide) rfl (pa_cons (pv 11) pa_nil))) (blkOk_by (N := N_law_otherwise_right) (sc := defScope s_law_otherwise_right) (by decide +kernel)) (fun _ _ _ _ _ => pg_name (i := 15) sc_law_otherwise_right.nd rfl (Or.inl rfl)) (fun _ _ _ _ _ => pts_nil) (fun _ _ _ _ _ => (pe_callB (cr_sortedN (K := K) (hr.mono (by decide))) (by rfl) T.sorted bt_sorted (pa_cons (pv 15) pa_nil)))) pa_nil)) (nomark _)))))))))))))))), ?_⟩
    refine ⟨_, rfl, t, _, rfl, SqT.of ht, rfl, _, _, rfl, _, _, rfl, rfl, ?_⟩
    refine ⟨_, rfl, d, _, 3, rfl, D0, by omega, by decide, by decide, fun H1 r r0 r1 S1 D1 => ⟨_, _, rfl, rfl, ?_⟩⟩
    -- the order
    refine ⟨_, rfl, a, _, rfl, .inr (ha.tk (D0.tk S1)).sq, fun lf nlf => ?_⟩
    have lfd := D1.nd nlf
    have lf0 := S1.free nlf lfd
    have S2 : SmX d H (upd H1 lf (.lst ((pl.map S).map V.str))) := S1.new nlf
    have D2 : SeedAt (upd H1 lf (.lst ((pl.map S).map V.str))) d (n + 1) := D1.new nlf
    have hlf : (upd H1 lf (.lst ((pl.map S).map V.str))) lf = some (.lst ((pl.map S).map V.str)) := upd_same
    generalize upd H1 lf (.lst ((pl.map S).map V.str)) = H2 at S2 D2 hlf
    refine ⟨_, rfl, a, rfl, ⟨_, (ha.tk (D0.tk S2)).sq⟩, fun D nD => ?_⟩
    have Dd := D2.nd nD
    have DD0 := S2.free nD Dd
    have Dlf : D ≠ lf := (ne_of_none hlf nD).symm
    refine lc_tup (K := K) (a := a) (xs := (pl.map S).map V.str) (fun i H' => ∃ l1 l2 : List Nm, l1.length = i ∧ (l1 ++ l2).Perm pl ∧ H' D = some (.lst ((l1.map S).map V.str)) ∧ H' lf = some (.lst ((l2.map S).map V.str)) ∧ SmX d H H' ∧ SeedAt H' d (n + 1 + i)) ⟨[], pl, rfl, List.Perm.refl _, upd_same, by rw [upd_ne Dlf.symm]; exact hlf, S2.new nD, D2.new nD⟩ (fun i H' _ hP => ?_) (fun i y H' hi hP => ?_) (fun H3 hP => ?_)
    · obtain ⟨_, _, _, _, _, _, sm, _⟩ := hP
      exact (ha.tk (D0.tk sm)).sq
    · obtain ⟨l1, l2, hl1, pm, hD, hlf, sm, D3⟩ := hP
      have il := (List.getElem?_eq_some_iff.mp hi).1
      rw [List.length_map, List.length_map] at il
      have ll := pm.length_eq
      rw [List.length_append] at ll
      have e2 : (((l2.map S).map V.str).length : Int) = l2.length := by rw [List.length_map, List.length_map]
      refine ⟨rfl, _, rfl, .inl ⟨rfl, _, SqL.of hlf⟩, _, rfl, _, rfl, .ref lf, _, rfl, .inl ⟨_, SqL.of hlf, rfl⟩, d, _, _, rfl, D3, by omega, by omega, by omega, fun H4 r r0 r1 S4 D4 => ?_⟩
      rw [e2] at r1
      have hD4 := S4 D _ Dd hD
      have hlf4 := S4 lf _ lfd hlf
      obtain ⟨x, hx⟩ : ∃ x, l2[r.toNat]? = some x := ⟨_, List.getElem?_eq_getElem (by omega)⟩
      have hy : ((l2.map S).map V.str)[r.toNat]? = some (.str (S x)) := by rw [List.getElem?_map, List.getElem?_map, hx]; rfl
      refine ⟨lf, _, r, r.toNat, _, rfl, rfl, hlf4, by omega, by omega, seq_ix r0 (by rw [List.length_map, List.length_map]; omega), hy, ?_⟩
      have hD5 : (upd H4 lf (.lst (((l2.map S).map V.str).eraseIdx r.toNat))) D = some (.lst ((l1.map S).map V.str)) := by
        rw [upd_ne Dlf]
        exact hD4
      refine ⟨_, hD5, by rw [List.length_map, List.length_map]; exact sz_lt (by omega), l1 ++ [x], l2.eraseIdx r.toNat, by rw [List.length_append, hl1]; rfl, perm_pick pm hx, ?_, ?_, ((sm.trans S4).put lf0).put DD0, ((D4.put lfd).put Dd).mono (by omega)⟩
      · rw [upd_same, List.map_append, List.map_append]
        rfl
      · rw [upd_ne Dlf.symm, upd_same, map_erase, map_erase]
    obtain ⟨os, l2, hl1, pm, hD, _, S3, D3⟩ := hP
    rw [List.length_map, List.length_map] at hl1 D3
    have ll := pm.length_eq
    rw [List.length_append] at ll
    have e2 : l2 = [] := List.length_eq_zero_iff.mp (by omega)
    subst e2
    rw [List.append_nil] at pm
    clear hlf S2 D2 S1 D1
    -- the names
    refine ⟨Nat.zero_le _, fun nl nnl => ?_⟩
    have nld := D3.nd nnl
    have nl0 := S3.free nnl nld
    have Dnl : D ≠ nl := ne_of_none hD nnl
    refine ⟨fun σ' H' => ∃ (x6 : Option V) (ns : List Nm), σ' = [some (.ref d), some (.ref t), some (.ref a), some (.ref b), some (.int (1 + r)), some (.ref lf), x6, some (.ref D), some (.ref nl), none, none, none, none, none, none, none] ∧ ns.length = pl.length ∧ ns.Nodup ∧ (∀ l ∈ ns, NameOk l) ∧ H' nl = some (.lst ((ns.map S).map V.str)) ∧ H' D = some (.lst ((os.map S).map V.str)) ∧ SmX d H H' ∧ SeedAt H' d (n + 640), ?_, fun σ' H4 hM => ?_⟩
    · have haX := ha.tk (D0.tk (S3.new (o := .lst []) nnl))
      refine ⟨_, rfl, a, rfl, ⟨_, haX.sq⟩, for_tup (K := K) (a := a) (xs := (pl.map S).map V.str) (fun i σ' H' => ∃ (x6 : Option V) (ns : List Nm), σ' = [some (.ref d), some (.ref t), some (.ref a), some (.ref b), some (.int (1 + r)), some (.ref lf), x6, some (.ref D), some (.ref nl), none, none, none, none, none, none, none] ∧ ns.length = i ∧ ns.Nodup ∧ (∀ l ∈ ns, NameOk l) ∧ H' nl = some (.lst ((ns.map S).map V.str)) ∧ H' D = some (.lst ((os.map S).map V.str)) ∧ SmX d H H' ∧ SeedAt H' d (n + 1 + pl.length + 20 * i)) ⟨none, [], rfl, rfl, List.nodup_nil, (fun l hl => by cases hl), upd_same, by rw [upd_ne Dnl]; exact hD, S3.new nnl, D3.new nnl⟩ (fun i σ' H' _ hP => ?_) (fun i y σ' H' hi hP => ?_) (fun σ' H' hP => ?_)⟩
      · obtain ⟨_, _, _, _, _, _, _, _, sm, _⟩ := hP
        exact (ha.tk (D0.tk sm)).sq
      · obtain ⟨x6, ns, rfl, hl, nd', ok, hnl, hD', sm, D5⟩ := hP
        have il := (List.getElem?_eq_some_iff.mp hi).1
        rw [List.length_map, List.length_map] at il
        refine ⟨_, rfl, .inl ⟨rfl, _, SqL.of hnl⟩, _, rfl, _, rfl, d, nl, _, ns, rfl, D5, by omega, nld, hnl, by omega, ok, fun H7 l lok nin S7 D7 => ?_⟩
        refine ⟨nl, _, _, rfl, rfl, S7 nl _ nld hnl, by rw [List.length_map, List.length_map]; exact sz_lt (by omega), ?_⟩
        refine ⟨_, ns ++ [l], rfl, by rw [List.length_append, hl]; rfl, nd_snoc' nd' nin, fun x hx => ?_, ?_, ?_, (sm.trans S7).put nl0, (D7.put nld).mono (by omega)⟩
        · rcases List.mem_append.mp hx with z | z
          · exact ok x z
          · rw [List.mem_singleton.mp z]
            exact lok
        · rw [upd_same, List.map_append, List.map_append]
          rfl
        · rw [upd_ne Dnl]
          exact S7 D _ Dd hD'
      · obtain ⟨x6, ns, rfl, hl, nd', ok, hnl, hD', sm, D5⟩ := hP
        rw [List.length_map, List.length_map] at hl D5
        exact ⟨x6, ns, rfl, hl, nd', ok, hnl, hD', sm, D5.mono (by omega)⟩
    obtain ⟨x6, ns, rfl, nlen, nnd, nok, hnl, hD, S4, D4⟩ := hM
    clear S3 D3
    obtain ⟨c, hc⟩ := fn_of (pl := os) (ls := ns) (pm.nodup_iff.mpr nd)
    have olen := pm.length_eq
    have cmap : os.map c = ns := fn_map (by omega) hc
    have inj : ∀ x ∈ pl, ∀ y ∈ pl, c x = c y → x = y := fun x hx y hy => fn_inj (pl := os) (by rw [cmap]; exact nnd) x (pm.mem_iff.mpr hx) y (pm.mem_iff.mpr hy)
    have npm : ns.Perm (pl.map c) := by
      rw [← cmap]
      exact pm.map c
    have at_ := fun {x : Nm} (hx : x ∈ pl) => ord_at (os := os) (ns := ns) (by omega) hc (pm.mem_iff.mpr hx)
    -- the ties
    refine ⟨Nat.zero_le _, fun tn ntn => ?_⟩
    have tnd := D4.nd ntn
    have tn0 := S4.free ntn tnd
    have Dtn : D ≠ tn := ne_of_none hD ntn
    have nltn : nl ≠ tn := ne_of_none hnl ntn
    refine ⟨fun σ' H' => ∃ (xA xB xC : Option V) (us : List V), σ' = [some (.ref d), some (.ref t), some (.ref a), some (.ref b), some (.int (1 + r)), some (.ref lf), x6, some (.ref D), some (.ref nl), some (.ref tn), xA, xB, xC, none, none, none] ∧ H' tn = some (.lst us) ∧ DtAll H' us (ts.map fun e => tieD (oth c (1 + r) e)) ∧ H' nl = some (.lst ((ns.map S).map V.str)) ∧ H' D = some (.lst ((os.map S).map V.str)) ∧ SmX d H H' ∧ SeedAt H' d (n + 640), ?_, fun σ' H5 hM => ?_⟩
    · have hbX := (D0.tk (S4.new (o := .lst []) ntn)).tup _ _ hb
      refine ⟨_, rfl, b, rfl, ⟨_, SqT.of hbX⟩, for_tup (K := K) (a := b) (xs := vs) (fun i σ' H' => ∃ (xA xB xC : Option V) (us : List V), σ' = [some (.ref d), some (.ref t), some (.ref a), some (.ref b), some (.int (1 + r)), some (.ref lf), x6, some (.ref D), some (.ref nl), some (.ref tn), xA, xB, xC, none, none, none] ∧ H' tn = some (.lst us) ∧ DtAll H' us ((ts.take i).map fun e => tieD (oth c (1 + r) e)) ∧ H' nl = some (.lst ((ns.map S).map V.str)) ∧ H' D = some (.lst ((os.map S).map V.str)) ∧ SmX d H H' ∧ SeedAt H' d (n + 640)) ⟨none, none, none, [], rfl, upd_same, .nil, by rw [upd_ne nltn]; exact hnl, by rw [upd_ne Dtn]; exact hD, S4.new ntn, D4.new ntn⟩ (fun i σ' H' _ hP => ?_) (fun i y σ' H' hi hP => ?_) (fun σ' H' hP => ?_)⟩
      · obtain ⟨_, _, _, _, _, _, _, _, _, sm, _⟩ := hP
        exact SqT.of ((D0.tk sm).tup _ _ hb)
      · obtain ⟨xA, xB, xC, us, rfl, htn, hU, hnl', hD', sm, D6⟩ := hP
        obtain ⟨e, p3, he, rfl, hp3⟩ := tie_at (DtAll.keep (D0.tk sm) hA) hi
        have il := (List.getElem?_eq_some_iff.mp he).1
        have ul := DtAll.len hU
        rw [List.length_map, List.length_take] at ul
        obtain ⟨m1, m2, k1, k2⟩ := fine.tree.ties e (List.mem_of_getElem? he)
        obtain ⟨j1, a1, b1, c1⟩ := at_ m1
        obtain ⟨j2, a2, b2, c2⟩ := at_ m2
        refine ⟨p3, _, rfl, SqT.of hp3, rfl, _, _, rfl, _, _, rfl, _, _, rfl, rfl, ?_⟩
        refine ⟨_, rfl, .inl ⟨rfl, _, SqL.of htn⟩, _, rfl, _, rfl, .inl ⟨rfl, _, SqL.of hD'⟩, _, rfl, D, _, _, j2, _, rfl, rfl, SqL.of hD', rfl, flat_strs _, a2, beq_self_eq_true _, b2, nl, _, _, _, rfl, rfl, SqL.of hnl', atI_nat c2, ?_⟩
        refine ⟨_, rfl, _, rfl, .inl ⟨rfl, _, SqL.of hD'⟩, _, rfl, D, _, _, j1, _, rfl, rfl, SqL.of hD', rfl, flat_strs _, a1, beq_self_eq_true _, b1, nl, _, _, _, rfl, rfl, SqL.of hnl', atI_nat c1, ?_⟩
        refine ⟨_, rfl, _, rfl, _, _, rfl, rfl, .inl ⟨by omega, by omega⟩, (by show 3 ≤ sizeLine; decide), fun o no => ?_⟩
        dsimp only
        have X1 := same_new (o := .tup [.str (S (c e.2.1)), .str (S (c e.1)), .int (e.2.2 * (1 + r))]) (Same.refl H') no
        have ho : (upd H' o (.tup [.str (S (c e.2.1)), .str (S (c e.1)), .int (e.2.2 * (1 + r))])) o = some (.tup [.str (S (c e.2.1)), .str (S (c e.1)), .int (e.2.2 * (1 + r))]) := upd_same
        have sm7 := sm.new (o := .tup [.str (S (c e.2.1)), .str (S (c e.1)), .int (e.2.2 * (1 + r))]) no
        have D7 := D6.new (o := .tup [.str (S (c e.2.1)), .str (S (c e.1)), .int (e.2.2 * (1 + r))]) no
        generalize upd H' o (.tup [.str (S (c e.2.1)), .str (S (c e.1)), .int (e.2.2 * (1 + r))]) = H7 at X1 ho sm7 D7
        have htn7 := X1 _ _ htn
        have tk := TK.mut (o := .lst (us ++ [.ref o])) htn7
        refine ⟨tn, us, .ref o, rfl, rfl, htn7, sz_lt (by omega), ?_⟩
        refine ⟨_, _, _, us ++ [.ref o], rfl, upd_same, ?_, by rw [upd_ne nltn]; exact X1 _ _ hnl', by rw [upd_ne Dtn]; exact X1 _ _ hD', sm7.put tn0, D7.put tnd⟩
        rw [List.take_add_one, he, List.map_append]
        exact DtAll.app (DtAll.keep ((TK.of X1).trans tk) hU) (.cons (.tup (tk.tup _ _ ho) (.cons (.str _) (.cons (.str _) (.cons (.int _) .nil)))) .nil)
      · obtain ⟨xA, xB, xC, us, rfl, htn, hU, hnl', hD', sm, D6⟩ := hP
        rw [List.take_of_length_le (by omega)] at hU
        exact ⟨xA, xB, xC, us, rfl, htn, hU, hnl', hD', sm, D6⟩
    obtain ⟨xA, xB, xC, us, rfl, htn, hU, hnl, hD, S5, D5⟩ := hM
    have ul := DtAll.len hU
    rw [List.length_map] at ul
    have hU : DtAll H5 us ((ts.map (oth c (1 + r))).map tieD) := by
      rw [List.map_map]
      exact hU
    obtain ⟨tO, eO⟩ : ∃ tO, tO = ts.map (oth c (1 + r)) := ⟨_, rfl⟩
    have tOl : tO.length = ts.length := by rw [eO, List.length_map]
    rw [← eO] at hU
    clear S4 D4
    -- none longer than is handed in
    refine ⟨fun σ' H' => σ' = [some (.ref d), some (.ref t), some (.ref a), some (.ref b), some (.int (1 + r)), some (.ref lf), x6, some (.ref D), some (.ref nl), some (.ref tn), xA, xB, xC, none, none, none] ∧ Same H5 H' ∧ ∀ e ∈ tO, e.2.2 ≤ 1000000, ?_, fun σ' H6 hM => ?_⟩
    · refine ⟨_, rfl, tn, rfl, ⟨_, SqL.of htn⟩, fun G nG => ?_⟩
      refine lc_list (K := K) (a := tn) (xs := us) (fun i H' => Same H5 H' ∧ H' G = some (.lst ((((tO.take i).filter fun e => decide (e.2.2 > 1000000)).map (·.2.2)).map V.int))) ⟨same_new (Same.refl _) nG, upd_same⟩ (fun i H' _ hP => SqL.of (hP.1 _ _ htn)) (fun i y H' hi hP => ?_) (fun H6 hP => ?_)
      · obtain ⟨SM, hG⟩ := hP
        obtain ⟨e, p3, he, rfl, hp3⟩ := tie_at (DtAll.keep (TK.of SM) hU) hi
        have il := (List.getElem?_eq_some_iff.mp he).1
        have gl : ((tO.take i).filter fun e => decide (e.2.2 > 1000000)).length ≤ i := Nat.le_trans (List.length_filter_le _ _) (by rw [List.length_take]; omega)
        have st : tO.take (i + 1) = tO.take i ++ [e] := by rw [List.take_add_one, he]; rfl
        refine ⟨p3, _, rfl, SqT.of hp3, rfl, _, _, rfl, _, _, rfl, _, _, rfl, rfl, rfl, _, rfl, _, _, rfl, rfl, ⟨by decide, by decide, by decide⟩, _, _, rfl, rfl, _, rfl, ?_⟩
        have e6 : (10 : Int) ^ (6 : Int).toNat = 1000000 := by decide
        refine ite2 (fun z => ?_) (fun z => ?_)
        · have z := of_decide_eq_true z
          rw [e6] at z
          refine ⟨_, rfl, _, hG, by rw [List.length_map, List.length_map]; exact sz_lt (by omega), same_put SM nG, ?_⟩
          rw [upd_same, st, List.filter_append, List.filter_cons_of_pos (by simp only [decide_eq_true_eq]; exact z), List.map_append, List.map_append]
          rfl
        · rw [e6] at z
          refine ⟨SM, ?_⟩
          rw [st, List.filter_append, List.filter_cons_of_neg (by exact z)]
          simpa using hG
      · obtain ⟨SM, hG⟩ := hP
        rw [List.take_of_length_le (by omega)] at hG
        refine ⟨Nat.zero_le _, fun l nl' => ?_⟩
        have S6 := same_new (o := .lst []) SM nl'
        have hG6 := same_new (o := .lst []) (Same.refl _) nl' _ _ hG
        have sh := shaped_il ((tO.filter fun e => decide (e.2.2 > 1000000)).map (·.2.2))
        have s0 : SeqAt.shaped (.list []) = true := rfl
        refine ⟨_, _, .lst (SqL.of hG6) (dps_I _ _), .lst (SqL.of upd_same) .nil, sh, s0, _, rfl, ?_⟩
        refine ite2 (fun z => ?_) (fun z => ?_)
        · exact q _ (fun x u nx hx => S6 x u (S5 x u nx hx)) ((D5.sameX S6).mono (by omega))
        · refine ⟨rfl, S6, fun e he => ?_⟩
          cases hf : tO.filter fun e => decide (e.2.2 > 1000000) with
          | nil =>
            have := List.filter_eq_nil_iff.mp hf e he
            simp only [decide_eq_true_eq] at this
            omega
          | cons x r =>
            rw [hf] at z
            exact absurd rfl z
    obtain ⟨rfl, S6, small⟩ := hM
    have htn := S6 _ _ htn
    have hnl := S6 _ _ hnl
    have hD := S6 _ _ hD
    have hU := DtAll.keep (TK.of S6) hU
    have S6' : SmX d H H6 := fun x u nx hx => S6 x u (S5 x u nx hx)
    have D6 := D5.sameX S6
    clear S5 D5 S6
    -- the other tree
    refine ⟨_, rfl, .inl ⟨nl, _, rfl, SqL.of hnl, fun g1 ng1 => ?_⟩⟩
    have X1 := same_new (o := .tup ((ns.map S).map V.str)) (Same.refl H6) ng1
    have hg1 : (upd H6 g1 (.tup ((ns.map S).map V.str))) g1 = some (.tup ((ns.map S).map V.str)) := upd_same
    generalize upd H6 g1 (.tup ((ns.map S).map V.str)) = H7 at X1 hg1
    refine ⟨_, rfl, tn, _, rfl, SqL.of (X1 _ _ htn), fun p1 np1 => ?_⟩
    have X2 := same_new (o := .lst us.reverse) X1 np1
    have hg2 := same_new (o := .lst us.reverse) (Same.refl H7) np1 _ _ hg1
    have hp2 : (upd H7 p1 (.lst us.reverse)) p1 = some (.lst us.reverse) := upd_same
    generalize upd H7 p1 (.lst us.reverse) = H8 at X2 hg2 hp2
    refine .inl ⟨p1, _, rfl, SqL.of hp2, fun g2 ng2 => ?_⟩
    have X3 := same_new (o := .tup us.reverse) X2 ng2
    have hg3 := same_new (o := .tup us.reverse) (Same.refl H8) ng2 _ _ hg2
    have hq3 : (upd H8 g2 (.tup us.reverse)) g2 = some (.tup us.reverse) := upd_same
    generalize upd H8 g2 (.tup us.reverse) = H9 at X3 hg3 hq3
    refine ⟨(by show 2 ≤ sizeLine; decide), fun o no => ?_⟩
    have X4 := same_new (o := .tup [.ref g1, .ref g2]) X3 no
    have dO : Dt (upd H9 o (.tup [.ref g1, .ref g2])) (.ref o) (treeD ns tO.reverse) := by
      have X5 := same_new (o := .tup [.ref g1, .ref g2]) (Same.refl H9) no
      refine .tup upd_same (.cons (.tup (X5 _ _ hg3) (dt_strs _ _)) (.cons (.tup (X5 _ _ hq3) ?_) .nil))
      rw [List.map_reverse]
      exact dts_rev (DtAll.keep (TK.of X4) hU)
    generalize upd H9 o (.tup [.ref g1, .ref g2]) = HO at X4 dO
    have m1 : (1 : Int) ≤ 1 + r := by omega
    have itO : IsTree ns tO.reverse := oth_tree m1 fine.tree inj (fun e he => small (oth c (1 + r) e) (by rw [eO]; exact List.mem_map_of_mem he)) npm (by rw [eO]; exact List.reverse_perm _)
    have F' : Fine ns tO.reverse := ⟨itO, nok, by omega⟩
    have z : Oth c (1 + r) pl ts ns tO.reverse := ⟨fine, F', m1, inj, npm, by rw [eO]; exact List.reverse_perm _⟩
    have kO : TK H HO := (D0.tk S6').trans (TK.of X4)
    have hnlO := X4 _ _ hnl
    have hDO := X4 _ _ hD
    have SO : SmX d H HO := fun x u nx hx => X4 x u (S6' x u nx hx)
    have DO := D6.sameX X4
    clear hg3 hq3 X3 hg2 hp2 X2 hg1 X1 htn hU ng1 np1 ng2 no hnl hD
    -- its greatest length
    refine ⟨fun σ' H' => σ' = [some (.ref d), some (.ref t), some (.ref a), some (.ref b), some (.int (1 + r)), some (.ref lf), x6, some (.ref D), some (.ref nl), some (.ref tn), xA, some (.ref o), xC, none, none, none] ∧ Same HO H', ?_, fun σ' HP hM => ?_⟩
    · obtain ⟨n1, u1, w1, e1, _, _, h1⟩ := far_num fine
      obtain ⟨n2, u2, w2, e2, _, _, h2⟩ := far_num F'
      refine ⟨_, rfl, .ref o, ns, _, rfl, dO, F', fun HA rA SA hA' => ?_⟩
      rw [e2] at hA'
      obtain ⟨fA, rfl, hfA⟩ := dt_tri hA'
      refine ⟨fA, _, 0, _, rfl, rfl, SqT.of hfA, atI_nat (j := 0) rfl, _, rfl, .ref t, pl, ts, rfl, Dt.keep (kO.trans (TK.of SA)) hd, fine, fun HB rB SB hB' => ?_⟩
      rw [e1] at hB'
      obtain ⟨fB, rfl, hfB⟩ := dt_tri hB'
      refine ⟨fB, _, 0, _, rfl, rfl, SqT.of hfB, atI_nat (j := 0) rfl, _, rfl, _, _, rfl, rfl, .inr ⟨by omega, by omega⟩, rfl, _, rfl, ?_⟩
      rw [z.num h1 h2]
      exact iteF' (by simp) ⟨rfl, SA.trans SB⟩
    obtain ⟨rfl, SP⟩ := hM
    have kP := kO.trans (TK.of SP)
    have dO := Dt.keep (TK.of SP) dO
    have hnlP := SP _ _ hnlO
    have hDP := SP _ _ hDO
    have fl : (farOf pl ts).length ≤ 900 := by
      have h1 : (farOf pl ts).length ≤ (pairsOf pl ts).length := List.length_filter_le _ _
      have h2 := prs_len pl ts pl.length
      have h3 : pl.length * pl.length ≤ 30 * 30 := Nat.mul_le_mul l30 l30
      unfold pairsOf at h1
      omega
    have fl2 : (farOf ns tO.reverse).length ≤ 900 := by
      have h1 : (farOf ns tO.reverse).length ≤ (pairsOf ns tO.reverse).length := List.length_filter_le _ _
      have h2 := prs_len ns tO.reverse ns.length
      have h3 : ns.length * ns.length ≤ 30 * 30 := Nat.mul_le_mul (by omega) (by omega)
      unfold pairsOf at h1
      omega
    have nostr : ∀ (xs : List Tri), xs.map (fun x => PyData.tuple [.str (S x.2.1), .str (S x.2.2)]) ≠ [] → ∃ d ∈ xs.map (fun x => PyData.tuple [.str (S x.2.1), .str (S x.2.2)]), ∀ l : Nm, d ≠ strD l := fun xs ne => by
      obtain ⟨d, hd⟩ := List.exists_mem_of_ne_nil _ ne
      refine ⟨d, hd, fun l z => ?_⟩
      obtain ⟨y, _, rfl⟩ := List.mem_map.mp hd
      cases z
    -- the farthest pairs, called otherwise
    refine ⟨_, rfl, .ref t, pl, ts, rfl, Dt.keep kP hd, fine, fun HQ rQ SQ hQ => ?_⟩
    obtain ⟨g, fs, rfl, hg, hF⟩ := dt_tup hQ (nostr _)
    have fsl := DtAll.len hF
    rw [List.length_map] at fsl
    refine ⟨g, rfl, ⟨_, SqT.of hg⟩, fun W nW => ?_⟩
    refine lc_tup (K := K) (a := g) (xs := fs) (fun i H' => Same HQ H' ∧ ∃ ws : List V, H' W = some (.lst ws) ∧ DqAll (wout H' W) ws (((farOf pl ts).take i).map fun x => rowD (two (c x.2.1) (c x.2.2)))) ⟨same_new (Same.refl _) nW, [], upd_same, .nil⟩ (fun i H' _ hP => SqT.of (hP.1 _ _ hg)) (fun i y H' hi hP => ?_) (fun HR hP => ?_)
    · obtain ⟨SM, ws, hW, hX⟩ := hP
      have wl := hX.len
      rw [List.length_map, List.length_take] at wl
      obtain ⟨dd, hdd, hy⟩ := DtAll.get hF hi
      rw [List.getElem?_map] at hdd
      cases ex : (farOf pl ts)[i]? with
      | none => rw [ex] at hdd; cases hdd
      | some x =>
        rw [ex] at hdd
        have ed : dd = .tuple [.str (S x.2.1), .str (S x.2.2)] := (Option.some.inj hdd).symm
        subst ed
        obtain ⟨xm1, xm2, _⟩ := far_top fine.tree (List.mem_of_getElem? ex)
        obtain ⟨o2, xs, rfl, hxs, hx⟩ := dt_any hy
        cases hx with
        | cons i1 hx =>
        cases i1
        cases hx with
        | cons i2 hx =>
        cases i2
        cases hx
        obtain ⟨j1, a1, b1, c1⟩ := at_ xm1
        obtain ⟨j2, a2, b2, c2⟩ := at_ xm2
        have hnlM := (SQ.trans SM) _ _ hnlP
        have hDM := (SQ.trans SM) _ _ hDP
        refine ⟨o2, _, rfl, (hxs.same SM).sq, rfl, _, _, rfl, _, _, rfl, rfl, rfl, _, rfl, _, rfl, .inl ⟨rfl, _, SqL.of hDM⟩, _, rfl, D, _, _, j1, _, rfl, rfl, SqL.of hDM, rfl, flat_strs _, a1, beq_self_eq_true _, b1, nl, _, _, _, rfl, rfl, SqL.of hnlM, atI_nat c1, _, rfl, _, rfl, .inl ⟨rfl, _, SqL.of hDM⟩, _, rfl, D, _, _, j2, _, rfl, rfl, SqL.of hDM, rfl, flat_strs _, a2, beq_self_eq_true _, b2, nl, _, _, _, rfl, rfl, SqL.of hnlM, atI_nat c2, (by show 2 ≤ sizeLine; decide), fun l nl' => ?_⟩
        have X1 := same_new (o := .lst [.str (S (c x.2.1)), .str (S (c x.2.2))]) (Same.refl H') nl'
        have hl : (upd H' l (.lst [.str (S (c x.2.1)), .str (S (c x.2.2))])) l = some (.lst [.str (S (c x.2.1)), .str (S (c x.2.2))]) := upd_same
        generalize upd H' l (.lst [.str (S (c x.2.1)), .str (S (c x.2.2))]) = HX at X1 hl
        refine ⟨l, [(V.str (S (c x.2.1)), strD (c x.2.1)), (V.str (S (c x.2.2)), strD (c x.2.2))], rfl, SqL.of hl, fun bb hb => ?_, (srt_all _ _).1, (srt_all _ _).2, fun p np => ?_⟩
        · simp only [List.mem_cons, List.not_mem_nil, or_false] at hb
          rcases hb with e | e <;> subst e
          · exact ⟨.str _, Nat.zero_le _⟩
          · exact ⟨.str _, Nat.zero_le _⟩
        rw [srt_two]
        have X2 := same_new (o := .lst (((two (c x.2.1) (c x.2.2)).map S).map V.str)) X1 np
        have hp : (upd HX p (.lst (((two (c x.2.1) (c x.2.2)).map S).map V.str))) p = some (.lst (((two (c x.2.1) (c x.2.2)).map S).map V.str)) := upd_same
        have pW : p ≠ W := fun e => by
          have := X1 _ _ hW
          rw [← e, np] at this
          cases this
        generalize upd HX p (.lst (((two (c x.2.1) (c x.2.2)).map S).map V.str)) = HY at X2 hp
        have hW2 := X2 _ _ hW
        refine ⟨ws, hW2, sz_lt (by omega), same_put (SM.trans X2) nW, ws ++ [.ref p], upd_same, ?_⟩
        rw [wout_upd, List.take_add_one, ex, List.map_append]
        refine DqAll.app (DqAll.keep (LK.of (wout_same X2)) hX) (.cons (.lst (wout_at hp pW) (DqAll.of (dt_strs _ _))) .nil)
    obtain ⟨SM, ws, hW, hX⟩ := hP
    rw [List.take_of_length_le (by omega)] at hX
    have hX := DqAll.keep (LK.of (wout_to W)) hX
    obtain ⟨bs, e1, e2, e3⟩ := pairs_dq hX
    have e2' : bs.map (·.2) = (FS c pl ts).map rowD := by
      rw [e2]
      unfold FS
      rw [List.map_map]
      rfl
    have ok1 := rows_ok (FS c pl ts)
    rw [← e2'] at ok1
    -- sorted
    refine ⟨_, rfl, W, bs, rfl, SqL.of (by rw [e1]; exact hW), fun bb hb => ⟨Dq.dp (e3 bb hb), ?_⟩, ok1.1, ok1.2, fun p np => ?_⟩
    · have : bb.2 ∈ (FS c pl ts).map rowD := by
        rw [← e2']
        exact List.mem_map_of_mem hb
      obtain ⟨y, _, ey⟩ := List.mem_map.mp this
      rw [← ey]
      exact row_dep y
    have X1 := same_new (o := .lst ((bs.mergeSort (PySem.W.dataLe false (·.2))).map (·.1))) (Same.refl HR) np
    have L1 : Dq (upd HR p (.lst ((bs.mergeSort (PySem.W.dataLe false (·.2))).map (·.1)))) (.ref p) (.list ((bs.mergeSort (PySem.W.dataLe false (·.2))).map (·.2))) := .lst upd_same (dq_pairs fun bb hb => Dq.keep (LK.of X1) (e3 bb (List.mem_mergeSort.mp hb)))
    generalize upd HR p (.lst ((bs.mergeSort (PySem.W.dataLe false (·.2))).map (·.1))) = HS at X1 L1
    have SS := SQ.trans (SM.trans X1)
    -- the other tree's
    refine ⟨_, rfl, .ref o, ns, _, rfl, Dt.keep (TK.of SS) dO, F', fun HT rT ST hT => ?_⟩
    obtain ⟨g', fs', rfl, hg', hF'⟩ := dt_tup hT (nostr _)
    have fsl' := DtAll.len hF'
    rw [List.length_map] at fsl'
    refine ⟨g', rfl, ⟨_, SqT.of hg'⟩, fun W' nW' => ?_⟩
    refine lc_tup (K := K) (a := g') (xs := fs') (fun i H' => Same HT H' ∧ ∃ ws : List V, H' W' = some (.lst ws) ∧ DqAll (wout H' W') ws (((farOf ns tO.reverse).take i).map fun x => rowD (two x.2.1 x.2.2))) ⟨same_new (Same.refl _) nW', [], upd_same, .nil⟩ (fun i H' _ hP => SqT.of (hP.1 _ _ hg')) (fun i y H' hi hP => ?_) (fun HU hP => ?_)
    · obtain ⟨SM', ws', hW', hX'⟩ := hP
      have wl := hX'.len
      rw [List.length_map, List.length_take] at wl
      obtain ⟨dd, hdd, hy⟩ := DtAll.get hF' hi
      rw [List.getElem?_map] at hdd
      cases ex : (farOf ns tO.reverse)[i]? with
      | none => rw [ex] at hdd; cases hdd
      | some x =>
        rw [ex] at hdd
        have ed : dd = .tuple [.str (S x.2.1), .str (S x.2.2)] := (Option.some.inj hdd).symm
        subst ed
        obtain ⟨o2, xs, rfl, hxs, hx⟩ := dt_any hy
        cases hx with
        | cons i1 hx =>
        cases i1
        cases hx with
        | cons i2 hx =>
        cases i2
        cases hx
        refine ⟨rfl, _, rfl, o2, [x.2.1, x.2.2], rfl, (hxs.same SM').sq, (by show 2 ≤ 1000; omega), fun p2 np2 => ?_⟩
        rw [leN_ms]
        have X2 := same_new (o := .lst (((two x.2.1 x.2.2).map S).map V.str)) (Same.refl H') np2
        have hp : (upd H' p2 (.lst (((two x.2.1 x.2.2).map S).map V.str))) p2 = some (.lst (((two x.2.1 x.2.2).map S).map V.str)) := upd_same
        have pW : p2 ≠ W' := (ne_of_none hW' np2).symm
        generalize upd H' p2 (.lst (((two x.2.1 x.2.2).map S).map V.str)) = HY at X2 hp
        have hW2 := X2 _ _ hW'
        refine ⟨ws', hW2, sz_lt (by omega), same_put (SM'.trans X2) nW', ws' ++ [.ref p2], upd_same, ?_⟩
        rw [wout_upd, List.take_add_one, ex, List.map_append]
        refine DqAll.app (DqAll.keep (LK.of (wout_same X2)) hX') (.cons (.lst (wout_at hp pW) (DqAll.of (dt_strs _ _))) .nil)
    obtain ⟨SM', ws', hW', hX'⟩ := hP
    rw [List.take_of_length_le (by omega)] at hX'
    have hX' := DqAll.keep (LK.of (wout_to W')) hX'
    obtain ⟨cs, f1, f2, f3⟩ := pairs_dq hX'
    have f2' : cs.map (·.2) = (FS id ns tO.reverse).map rowD := by
      rw [f2]
      unfold FS
      rw [List.map_map]
      rfl
    have ok2 := rows_ok (FS id ns tO.reverse)
    rw [← f2'] at ok2
    refine ⟨W', cs, rfl, SqL.of (by rw [f1]; exact hW'), fun bb hb => ⟨Dq.dp (f3 bb hb), ?_⟩, ok2.1, ok2.2, fun p' np' => ?_⟩
    · have : bb.2 ∈ (FS id ns tO.reverse).map rowD := by
        rw [← f2']
        exact List.mem_map_of_mem hb
      obtain ⟨y, _, ey⟩ := List.mem_map.mp this
      rw [← ey]
      exact row_dep y
    have X3 := same_new (o := .lst ((cs.mergeSort (PySem.W.dataLe false (·.2))).map (·.1))) (Same.refl HU) np'
    have L2 : Dq (upd HU p' (.lst ((cs.mergeSort (PySem.W.dataLe false (·.2))).map (·.1)))) (.ref p') (.list ((cs.mergeSort (PySem.W.dataLe false (·.2))).map (·.2))) := .lst upd_same (dq_pairs fun bb hb => Dq.keep (LK.of X3) (f3 bb (List.mem_mergeSort.mp hb)))
    generalize upd HU p' (.lst ((cs.mergeSort (PySem.W.dataLe false (·.2))).map (·.1))) = HV at X3 L2
    have same := rows_same e2' f2' z.pairs FS_two
    rw [← same] at L2
    have TV := ST.trans (SM'.trans X3)
    have sh : SeqAt.shaped (.list ((bs.mergeSort (PySem.W.dataLe false (·.2))).map (·.2))) = true := shaped_of (n := 2) (Lay.lst fun dd hdd => by
      obtain ⟨bb, hb, rfl⟩ := List.mem_map.mp hdd
      have : bb.2 ∈ (FS c pl ts).map rowD := by
        rw [← e2']
        exact List.mem_map_of_mem (List.mem_mergeSort.mp hb)
      obtain ⟨y, hy, ey⟩ := List.mem_map.mp this
      rw [← ey]
      refine Lay.lst fun dd hdd => ?_
      obtain ⟨l, hl, rfl⟩ := List.mem_map.mp hdd
      refine .str (nok l ?_)
      obtain ⟨x, hx, rfl⟩ := List.mem_map.mp hy
      obtain ⟨xm1, xm2, _⟩ := far_top fine.tree hx
      have cm : ∀ u ∈ pl, c u ∈ ns := fun u hu => z.mem.mpr ⟨u, hu, rfl⟩
      unfold two at hl
      split at hl <;> simp only [List.mem_cons, List.not_mem_nil, or_false] at hl <;> rcases hl with e | e <;> rw [e] <;> first | exact cm _ xm1 | exact cm _ xm2) (by omega)
    refine ⟨_, _, Dq.dp (Dq.keep (LK.of TV) L1), Dq.dp L2, sh, sh, ?_⟩
    rw [eqv_same sh]
    have SV := SP.trans (SS.trans TV)
    exact q _ (fun x u nx hx => SV x u (SO x u nx hx)) ((DO.sameX SV).mono (by omega))
end
end Far

namespace Far
open PySem PySem.Spec PyProof.Rows L2
open LamX (Tabs ExtN)
open C8 (pss_cut tCut)
open SX (S)
theorem SeedAt.ofN {H H' : Hp} {d : Addr} {n : Nat} (h : SeedAt H d n) (e : ExtN H H') : SeedAt H' d n := by
  obtain ⟨a, f, k, m, h1, h2⟩ := h
  exact ⟨a, f, k, m, e _ _ h1 (fun ps z => by cases z), h2⟩
theorem tabs_seed {T : List (Addr × Str)} {H H' : Hp} {d : Addr} {n : Nat} (t : Tabs T H) (D : SeedAt H d n) (s : SmX d H H') : Tabs T H' := by
  obtain ⟨xs, e⟩ := D.lst
  exact tabs_mv t e s
theorem PlZ.ext {H H' : Hp} {v : V} {pl : List Nm} (h : PlZ H v pl) (e : ExtN H H') : PlZ H' v pl := by
  obtain ⟨t, a, b, o, e1, h1, h2, h3⟩ := h
  exact ⟨t, a, b, o, e1, e _ _ h1 (fun ps z => by cases z), h2, e _ _ h3 (fun ps z => by cases z)⟩
abbrev s_law : Stmt := topS 26
abbrev N_law : List Str := ["script", "cell", "seed", "turn", "tree"]
theorem sc_law : FnScope N_law ["script"] (defScope s_law) := ⟨rfl, rfl, rfl, by decide +kernel, rfl, by decide +kernel, by decide +kernel⟩
section
variable {P : Program} {w : World} {K : PySem.W.Frag} {mg : Str → Option Value} {base : Heap} {Pt : Addr}
def spLawT (K : PySem.W.Frag) (Pt : Addr) : Sp := fun vs H Q _ => ∃ (a : Addr) (ns : List Int), vs = [.ref a] ∧ SqL K H a (ns.map V.int) ∧ ns.length ≤ 63 ∧ Tabs [(Pt, qLam)] H ∧ ∀ H', Q (.bl true) H'
theorem ok_law {f : Addr} {fd : FuncData} (F : Fun K "law" "law" s_law f fd) (T : TxtG mg) (C_law_folded : Cal P w K mg base 1 "_law_folded" (spFolded K)) (C_law_seed : Cal P w K mg base 1 "_law_seed" spSeed) (C_law_tree : Cal P w K mg base 3 "_law_tree" spTree)
    (C_law_numbered_right : Cal P w K mg base 7 "_law_numbered_right" (spNumR Pt)) (C_law_ends_right : Cal P w K mg base 7 "_law_ends_right" spEndsR) (C_law_otherwise_right : Cal P w K mg base 7 "_law_otherwise_right" spOthR) : FnOk P w K mg base CX0 8 f fd ["script"] (spLawT K Pt) := by
  refine F.ok sc_law (fun vs H Q E h => ?_) (fun cdv A outer s H vs Q E hr h => ?_)
  · obtain ⟨a, ns, rfl, _⟩ := h
    rfl
  · obtain ⟨a, ns, rfl, hS, hl, hT, q⟩ := h
    refine ⟨_, (pss_cut (ps_for PassesOwn.never rfl (pi_list (pe_op op_cat (pe_slice sl_list (pv 0) po_none (po_some pe_int)) (pe_lst (pa_cons (pe_c C_law_folded hr (by decide) rfl (pa_cons (pv 0) pa_nil)) pa_nil)))) (pg_name (i := 1) sc_law.nd rfl (.inl rfl))
        (pss_cons (ps_set (i := 2) sc_law.nd rfl (.inl rfl) (pe_c C_law_seed hr (by decide) rfl (pa_cons (pv 1) pa_nil)))
        (pss_one (ps_for PassesOwn.never rfl (pi_range1 (by rfl) T.range (pa_cons pe_int pa_nil)) (pg_name (i := 3) sc_law.nd rfl (.inl rfl))
          (pss_cons (ps_set (i := 4) sc_law.nd rfl (.inl rfl) (pe_c C_law_tree hr (by decide) rfl (pa_cons (pv 2) (pa_cons (pe_ix ix_list (pe_lst (pa_cons pe_int (pa_cons pe_int pa_nil))) (pv 3) (fun _ _ => rfl)) pa_nil))))
          (pss_cut (ps_if (PW.pt (pw_or (pt_not (pt_val (pe_c C_law_numbered_right hr (by decide) rfl (pa_cons (pv 4) pa_nil)))) (pw_or1 (pt_not (pt_val (pe_c C_law_ends_right hr (by decide) rfl (pa_cons (pv 4) pa_nil)))))))
            (pss_one (ps_ret pe_bl))
            pss_nil)
          (pss_one (ps_if (pt_not (pt_val (pe_c C_law_otherwise_right hr (by decide) rfl (pa_cons (pv 2) (pa_cons (pe_c C_law_tree hr (by decide) rfl (pa_cons (pv 2) (pa_cons pe_int pa_nil))) pa_nil)))))
            (pss_one (ps_ret pe_bl))
            pss_nil))))))))
      (pss_one (ps_ret pe_bl))), ?_⟩
    refine ⟨fun σ' H' => True, ?_, fun σ' H' _ => q _⟩
    refine ⟨_, rfl, 1, rfl, a, _, rfl, hS, fun p1 np1 => ?_⟩
    refine ⟨_, rfl, a, ns, rfl, SqL.same hS (same_new (Same.refl H) np1), hl, fun r r0 => ?_⟩
    refine ⟨(by show 1 ≤ sizeLine; decide), fun p2 np2 => ?_⟩
    have n12 : p1 ≠ p2 := ne_of_none upd_same np2
    have cl := cutV_length (ns.map V.int) none (some 1)
    rw [List.length_map] at cl
    refine ⟨p1, p2, _, _, rfl, rfl, by rw [upd_ne n12]; exact upd_same, upd_same, by rw [List.length_singleton]; exact sz_le (by omega), fun p3 np3 => ?_⟩
    have hcs : ∀ v ∈ cutV (ns.map V.int) none (some 1) ++ [V.int r], ∃ c : Int, v = .int c := fun v hv => by
      rcases List.mem_append.mp hv with z | z
      · obtain ⟨c, _, e⟩ := List.mem_map.mp (List.mem_of_mem_drop (List.mem_of_mem_take z))
        exact ⟨c, e.symm⟩
      · exact ⟨r, List.mem_singleton.mp z⟩
    have hT3 : Tabs [(Pt, qLam)] (upd (upd (upd H p1 (.lst (cutV (ns.map V.int) none (some 1)))) p2 (.lst [.int r])) p3 (.lst (cutV (ns.map V.int) none (some 1) ++ [.int r]))) := Tabs.ext hT (same_new (same_new (same_new (Same.refl H) np1) np2) np3)
    have h3 : (upd (upd (upd H p1 (.lst (cutV (ns.map V.int) none (some 1)))) p2 (.lst [.int r])) p3 (.lst (cutV (ns.map V.int) none (some 1) ++ [.int r]))) p3 = some (.lst (cutV (ns.map V.int) none (some 1) ++ [.int r])) := upd_same
    generalize upd (upd (upd H p1 (.lst (cutV (ns.map V.int) none (some 1)))) p2 (.lst [.int r])) p3 (.lst (cutV (ns.map V.int) none (some 1) ++ [.int r])) = H3 at h3 hT3
    generalize cutV (ns.map V.int) none (some 1) ++ [V.int r] = cs at hcs h3
    refine ⟨p3, rfl, ⟨_, SqL.of h3⟩, for_list (K := K) (a := p3) (xs := cs) (fun i σ' H' => (∃ x1 x2 x3 x4, σ' = [some (.ref a), x1, x2, x3, x4]) ∧ H' p3 = some (.lst cs) ∧ Tabs [(Pt, qLam)] H') ⟨⟨_, _, _, _, rfl⟩, h3, hT3⟩ (fun i σ' H' _ hP => SqL.of hP.2.1) (fun i v σ' H' hi hP => ?_) (fun σ' H' hP => trivial)⟩
    obtain ⟨⟨x1, x2, x3, x4, rfl⟩, hp3, T4⟩ := hP
    obtain ⟨c, rfl⟩ := hcs v (List.mem_of_getElem? hi)
    refine ⟨_, rfl, c, rfl, fun H5 d S5 d0 D5 => ?_⟩
    have pd : p3 ≠ d := fun e => by
      rw [e, d0] at hp3
      cases hp3
    refine ⟨2, rfl, by decide, by decide, for_range (lo := 0) (n := (2 : Int).toNat) (fun j σ' H'' => (∃ x3 x4, σ' = [some (.ref a), some (.int c), some (.ref d), x3, x4]) ∧ H'' p3 = some (.lst cs) ∧ Tabs [(Pt, qLam)] H'' ∧ SeedAt H'' d (2800 * j)) ⟨⟨_, _, rfl⟩, S5 _ _ hp3, Tabs.ext T4 S5, D5⟩ (fun j σ' H'' hj hP => ?_) (fun σ' H'' hP => ?_)⟩
    · obtain ⟨⟨x3, x4, rfl⟩, h6, T6, D6⟩ := hP
      have hj : j < 2 := hj
      refine ⟨_, rfl, (by show 2 ≤ sizeLine; decide), fun p np => ?_⟩
      obtain ⟨v, hv, mv⟩ := atI_in (xs := [V.int 6, .int 12]) (i := 0 + (j : Int)) (by omega) (by simpa using (by omega : (0 : Int) + (j : Int) < 2))
      obtain ⟨most, rfl, m1, m12⟩ : ∃ m : Nat, v = .int m ∧ 1 ≤ m ∧ m ≤ 12 := by
        simp only [List.mem_cons, List.not_mem_nil, or_false] at mv
        rcases mv with e | e
        · exact ⟨6, e, by omega, by omega⟩
        · exact ⟨12, e, by omega, by omega⟩
      refine ⟨_, rfl, p, _, 0 + (j : Int), _, rfl, rfl, SqL.of upd_same, hv, ?_⟩
      have X6 := same_new (o := .lst [V.int 6, .int 12]) (Same.refl H'') np
      refine ⟨d, _, most, rfl, D6.new np, by omega, m1, by omega, fun H7 t pl ts it ok pll hDt hZ S7 D7 => ?_⟩
      have fine : Fine pl ts := ⟨it, ok, by omega⟩
      have h7 := S7 p3 _ pd (X6 _ _ h6)
      have T7 := tabs_seed (Tabs.ext T6 X6) (D6.new np) S7
      refine ⟨fun σ' H' => σ' = [some (.ref a), some (.int c), some (.ref d), some (.int (0 + (j : Int))), some (.ref t)] ∧ H' p3 = some (.lst cs) ∧ Tabs [(Pt, qLam)] H' ∧ SeedAt H' d (2800 * j + 1000), ?_, fun σ' H' hM => ?_⟩
      · refine ⟨_, rfl, .ref t, pl, ts, rfl, hDt, hZ, fine, by omega, T7, fun H8 E8 T8 => ⟨_, rfl, ?_⟩⟩
        have h8 := E8 _ _ h7 (fun ps z => by cases z)
        have D8 := D7.ofN E8
        refine iteF ⟨_, rfl, .ref t, pl, ts, rfl, Dt.keep (TK.ofN E8) hDt, fine, by omega, fun H9 S9 => ⟨_, rfl, iteF ⟨rfl, S9 _ _ h8, Tabs.ext T8 S9, D8.sameX S9⟩⟩⟩
      · obtain ⟨rfl, h8, T8, D8⟩ := hM
        refine ⟨_, rfl, _, rfl, d, _, 30, rfl, D8, by omega, by omega, by omega, fun H9 t' pl' ts' it' ok' pll' hDt' hZ' S9 D9 => ?_⟩
        have fine' : Fine pl' ts' := ⟨it', ok', by omega⟩
        refine ⟨d, .ref t', _, pl', ts', rfl, D9, by omega, hDt', fine', pll', fun HA SA DA => ⟨_, rfl, iteF ⟨⟨_, _, rfl⟩, SA p3 _ pd (S9 p3 _ pd h8), tabs_seed (tabs_seed T8 D8 S9) D9 SA, DA.mono (by omega)⟩⟩⟩
    · obtain ⟨⟨x3, x4, rfl⟩, h6, T6, D6⟩ := hP
      exact ⟨⟨_, _, _, _, rfl⟩, h6, T6⟩
end
end Far

namespace Far
open PySem PySem.Spec PyProof.Rows L2
open LamX in
/-- the end where one def's code object has a table -/
theorem walk_nm {l : PySem.W.OpenLaw} {q : Program} {loose : List Str} {XP : (Str → Option Value) → Heap → Prop} {YP : World → Heap → Prop} {d dN : DefRec} {K : Params → PySem.W.Frag} {k : Nat} {x nm : Str} (room : Room k callerA) (most : l.most = some 63) (nodef : d.params.defaults = [])
    (found : (recsOf q).find? (fun e => e.name == nm) = some dN) (inK : ∀ w h, YP w h → (K w.params).In h)
    (F : ∀ (w : World) (mg : Str → Option Value) (fa : Addr) (h : Heap), (K w.params).In h → h.Ns mainGlobals mg → mg d.name = some (.ref fa) → (∀ c P, PySem.W.tabIn (K w.params) nm = some (c, P) → PySem.W.CodeHd h c P ∧ h.get? P = some (PySem.W.tabObj #[])) → LawAtS l w (K w.params) L2.CX0 k 63 x mg fa h) :
    PySem.W.WalkO q loose XP YP l.row.toRowW d [] (fun f vs => PySem.call f vs) := by
  refine Att.attach_callB most nodef fun w sA sB mg mb fL oL pmL cdL docL aL vsL nsL G Y hoL hdL hcL hmgL hobj hints hlen hbits hgens => ?_
  have KX := inK w _ Y
  obtain ⟨fdL, cs, sp, tEmpty, tNone, tCode, bnd, told, okF⟩ := F w mg fL _ KX G.T.g hmgL fun c P e => PySem.W.tab_of G.T KX found e
  refine law_callTs KX G.T.g G.T.b G.T.builtins G.T.nolimit hgens tEmpty tNone tCode G.T.bmain hobj hints (Nat.le_trans hlen (by decide)) room okF bnd (fun H hH hS => told H aL nsL hlen hbits hH hS) ?_
  intro H e s' z
  exact z
theorem all_mk {l : PySem.W.OpenLaw} {w : World} {K : PySem.W.Frag} {h : Heap} {mg : Str → Option Value} {fa f1 f2 f3 f4 f5 f6 f7 f8 f9 f10 f11 f12 f13 f14 f15 f16 f17 f18 f19 f20 : Addr} (X : K.In h) (G : h.Ns mainGlobals mg) (hfa : mg "law" = some (.ref fa))
    {od1 od2 od3 od4 od5 od6 od7 od8 od9 od10 od11 od12 od13 od14 od15 od16 od17 od18 od19 od20 an1 an2 an3 an4 an5 an6 an7 an8 an9 an10 an11 an12 an13 an14 an15 an16 an17 an18 an19 an20 : Option Addr} {sl1 sl2 sl3 sl4 sl5 sl6 sl7 sl8 sl9 sl10 sl11 sl12 sl13 sl14 sl15 sl16 sl17 sl18 sl19 sl20 : Array (Option Value)} {oc1 oc2 oc3 oc4 oc5 oc6 oc7 oc8 oc9 oc10 oc11 oc12 oc13 oc14 oc15 oc16 oc17 oc18 oc19 oc20 kV1 kV2 kV3 kV4 kV5 kV6 kV7 kV8 kV9 kV10 kV11 kV12 kV13 kV14 kV15 kV16 kV17 kV18 kV19 kV20 dc1 dc2 dc3 dc4 dc5 dc6 dc7 dc8 dc9 dc10 dc11 dc12 dc13 dc14 dc15 dc16 dc17 dc18 dc19 dc20 pm1 pm2 pm3 pm4 pm5 pm6 pm7 pm8 pm9 pm10 pm11 pm12 pm13 pm14 pm15 pm16 pm17 pm18 pm19 pm20 cd1 cd2 cd3 cd4 cd5 cd6 cd7 cd8 cd9 cd10 cd11 cd12 cd14 cd15 cd16 cd17 cd18 cd19 cd20 ct1 ct2 ct3 ct4 ct5 ct6 ct7 ct8 ct9 ct10 ct11 ct12 ct13 ct14 ct15 ct16 ct17 ct18 ct19 ct20 : Value}
    {cN Pt : Addr} {eN : Value} {ddN : Option Addr} {vsN : Array Value} {sN : Array (Option Value)} (kc : K.lookup cN = some ⟨eN, ddN, .fields vsN, sN⟩) (vP : (vsN[11]? : Option Value) = some (.ref Pt)) (nT : K.lookup Pt = none) (tab : ∀ c P, PySem.W.tabIn K "nth_farthest" = some (c, P) → PySem.W.CodeHd h c P ∧ h.get? P = some (PySem.W.tabObj #[]))
    (a1 : PySem.W.nsIn K mainGlobals "_law_folded" = some (some (.ref f1))) (l1 : K.lookup f1 = some ⟨oc1, od1, .func (PySem.W.fnOf "_law_folded" "_law_folded" (defArgs s_law_folded) (defBody s_law_folded) (defScope s_law_folded) .none kV1 dc1 pm1 an1 cd1 ct1), sl1⟩) (c1 : PySem.W.codeIn K cd1 "_law_folded" = true) (k1 : PySem.W.keepIn K (.ref f1) = true)
    (a2 : PySem.W.nsIn K mainGlobals "_law_seed" = some (some (.ref f2))) (l2 : K.lookup f2 = some ⟨oc2, od2, .func (PySem.W.fnOf "_law_seed" "_law_seed" (defArgs s_law_seed) (defBody s_law_seed) (defScope s_law_seed) .none kV2 dc2 pm2 an2 cd2 ct2), sl2⟩) (c2 : PySem.W.codeIn K cd2 "_law_seed" = true) (k2 : PySem.W.keepIn K (.ref f2) = true)
    (a3 : PySem.W.nsIn K mainGlobals "_law_draw" = some (some (.ref f3))) (l3 : K.lookup f3 = some ⟨oc3, od3, .func (PySem.W.fnOf "_law_draw" "_law_draw" (defArgs s_law_draw) (defBody s_law_draw) (defScope s_law_draw) .none kV3 dc3 pm3 an3 cd3 ct3), sl3⟩) (c3 : PySem.W.codeIn K cd3 "_law_draw" = true) (k3 : PySem.W.keepIn K (.ref f3) = true)
    (a4 : PySem.W.nsIn K mainGlobals "_law_name" = some (some (.ref f4))) (l4 : K.lookup f4 = some ⟨oc4, od4, .func (PySem.W.fnOf "_law_name" "_law_name" (defArgs s_law_name) (defBody s_law_name) (defScope s_law_name) .none kV4 dc4 pm4 an4 cd4 ct4), sl4⟩) (c4 : PySem.W.codeIn K cd4 "_law_name" = true) (k4 : PySem.W.keepIn K (.ref f4) = true)
    (a5 : PySem.W.nsIn K mainGlobals "_law_length" = some (some (.ref f5))) (l5 : K.lookup f5 = some ⟨oc5, od5, .func (PySem.W.fnOf "_law_length" "_law_length" (defArgs s_law_length) (defBody s_law_length) (defScope s_law_length) .none kV5 dc5 pm5 an5 cd5 ct5), sl5⟩) (c5 : PySem.W.codeIn K cd5 "_law_length" = true) (k5 : PySem.W.keepIn K (.ref f5) = true)
    (a6 : PySem.W.nsIn K mainGlobals "_law_tree" = some (some (.ref f6))) (l6 : K.lookup f6 = some ⟨oc6, od6, .func (PySem.W.fnOf "_law_tree" "_law_tree" (defArgs s_law_tree) (defBody s_law_tree) (defScope s_law_tree) .none kV6 dc6 pm6 an6 cd6 ct6), sl6⟩) (c6 : PySem.W.codeIn K cd6 "_law_tree" = true) (k6 : PySem.W.keepIn K (.ref f6) = true)
    (a7 : PySem.W.nsIn K mainGlobals "_ties_of_each" = some (some (.ref f7))) (l7 : K.lookup f7 = some ⟨oc7, od7, .func (PySem.W.fnOf "_ties_of_each" "_ties_of_each" (defArgs s_ties_of_each) (defBody s_ties_of_each) (defScope s_ties_of_each) .none kV7 dc7 pm7 an7 cd7 ct7), sl7⟩) (c7 : PySem.W.codeIn K cd7 "_ties_of_each" = true) (k7 : PySem.W.keepIn K (.ref f7) = true)
    (a8 : PySem.W.nsIn K mainGlobals "walk_from" = some (some (.ref f8))) (l8 : K.lookup f8 = some ⟨oc8, od8, .func (PySem.W.fnOf "walk_from" "walk_from" (defArgs s_walk_from) (defBody s_walk_from) (defScope s_walk_from) .none kV8 dc8 pm8 an8 cd8 ct8), sl8⟩) (c8 : PySem.W.codeIn K cd8 "walk_from" = true) (k8 : PySem.W.keepIn K (.ref f8) = true)
    (a9 : PySem.W.nsIn K mainGlobals "check_places" = some (some (.ref f9))) (l9 : K.lookup f9 = some ⟨oc9, od9, .func (PySem.W.fnOf "check_places" "check_places" (defArgs s_check_places) (defBody s_check_places) (defScope s_check_places) .none kV9 dc9 pm9 an9 cd9 ct9), sl9⟩) (c9 : PySem.W.codeIn K cd9 "check_places" = true) (k9 : PySem.W.keepIn K (.ref f9) = true)
    (a10 : PySem.W.nsIn K mainGlobals "lengths_from" = some (some (.ref f10))) (l10 : K.lookup f10 = some ⟨oc10, od10, .func (PySem.W.fnOf "lengths_from" "lengths_from" (defArgs s_lengths_from) (defBody s_lengths_from) (defScope s_lengths_from) .none kV10 dc10 pm10 an10 cd10 ct10), sl10⟩) (c10 : PySem.W.codeIn K cd10 "lengths_from" = true) (k10 : PySem.W.keepIn K (.ref f10) = true)
    (a11 : PySem.W.nsIn K mainGlobals "length_between" = some (some (.ref f11))) (l11 : K.lookup f11 = some ⟨oc11, od11, .func (PySem.W.fnOf "length_between" "length_between" (defArgs s_length_between) (defBody s_length_between) (defScope s_length_between) .none kV11 dc11 pm11 an11 cd11 ct11), sl11⟩) (c11 : PySem.W.codeIn K cd11 "length_between" = true) (k11 : PySem.W.keepIn K (.ref f11) = true)
    (a12 : PySem.W.nsIn K mainGlobals "pairs_in_order" = some (some (.ref f12))) (l12 : K.lookup f12 = some ⟨oc12, od12, .func (PySem.W.fnOf "pairs_in_order" "pairs_in_order" (defArgs s_pairs_in_order) (defBody s_pairs_in_order) (defScope s_pairs_in_order) .none kV12 dc12 pm12 an12 cd12 ct12), sl12⟩) (c12 : PySem.W.codeIn K cd12 "pairs_in_order" = true) (k12 : PySem.W.keepIn K (.ref f12) = true)
    (a13 : PySem.W.nsIn K mainGlobals "nth_farthest" = some (some (.ref f13))) (l13 : K.lookup f13 = some ⟨oc13, od13, .func (PySem.W.fnOf "nth_farthest" "nth_farthest" (defArgs s_nth_farthest) (defBody s_nth_farthest) (defScope s_nth_farthest) .none kV13 dc13 pm13 an13 (.ref cN) ct13), sl13⟩) (c13 : PySem.W.codeIn K (.ref cN) "nth_farthest" = true) (k13 : PySem.W.keepIn K (.ref f13) = true)
    (a14 : PySem.W.nsIn K mainGlobals "count_so_far" = some (some (.ref f14))) (l14 : K.lookup f14 = some ⟨oc14, od14, .func (PySem.W.fnOf "count_so_far" "count_so_far" (defArgs s_count_so_far) (defBody s_count_so_far) (defScope s_count_so_far) .none kV14 dc14 pm14 an14 cd14 ct14), sl14⟩) (c14 : PySem.W.codeIn K cd14 "count_so_far" = true) (k14 : PySem.W.keepIn K (.ref f14) = true)
    (a15 : PySem.W.nsIn K mainGlobals "farthest" = some (some (.ref f15))) (l15 : K.lookup f15 = some ⟨oc15, od15, .func (PySem.W.fnOf "farthest" "farthest" (defArgs s_farthest) (defBody s_farthest) (defScope s_farthest) .none kV15 dc15 pm15 an15 cd15 ct15), sl15⟩) (c15 : PySem.W.codeIn K cd15 "farthest" = true) (k15 : PySem.W.keepIn K (.ref f15) = true)
    (a16 : PySem.W.nsIn K mainGlobals "all_farthest" = some (some (.ref f16))) (l16 : K.lookup f16 = some ⟨oc16, od16, .func (PySem.W.fnOf "all_farthest" "all_farthest" (defArgs s_all_farthest) (defBody s_all_farthest) (defScope s_all_farthest) .none kV16 dc16 pm16 an16 cd16 ct16), sl16⟩) (c16 : PySem.W.codeIn K cd16 "all_farthest" = true) (k16 : PySem.W.keepIn K (.ref f16) = true)
    (a17 : PySem.W.nsIn K mainGlobals "_law_numbered_right" = some (some (.ref f17))) (l17 : K.lookup f17 = some ⟨oc17, od17, .func (PySem.W.fnOf "_law_numbered_right" "_law_numbered_right" (defArgs s_law_numbered_right) (defBody s_law_numbered_right) (defScope s_law_numbered_right) .none kV17 dc17 pm17 an17 cd17 ct17), sl17⟩) (c17 : PySem.W.codeIn K cd17 "_law_numbered_right" = true) (k17 : PySem.W.keepIn K (.ref f17) = true)
    (a18 : PySem.W.nsIn K mainGlobals "_law_ends_right" = some (some (.ref f18))) (l18 : K.lookup f18 = some ⟨oc18, od18, .func (PySem.W.fnOf "_law_ends_right" "_law_ends_right" (defArgs s_law_ends_right) (defBody s_law_ends_right) (defScope s_law_ends_right) .none kV18 dc18 pm18 an18 cd18 ct18), sl18⟩) (c18 : PySem.W.codeIn K cd18 "_law_ends_right" = true) (k18 : PySem.W.keepIn K (.ref f18) = true)
    (a19 : PySem.W.nsIn K mainGlobals "_law_otherwise_right" = some (some (.ref f19))) (l19 : K.lookup f19 = some ⟨oc19, od19, .func (PySem.W.fnOf "_law_otherwise_right" "_law_otherwise_right" (defArgs s_law_otherwise_right) (defBody s_law_otherwise_right) (defScope s_law_otherwise_right) .none kV19 dc19 pm19 an19 cd19 ct19), sl19⟩) (c19 : PySem.W.codeIn K cd19 "_law_otherwise_right" = true) (k19 : PySem.W.keepIn K (.ref f19) = true)
    (a20 : PySem.W.nsIn K mainGlobals "law" = some (some (.ref f20))) (l20 : K.lookup f20 = some ⟨oc20, od20, .func (PySem.W.fnOf "law" "law" (defArgs s_law) (defBody s_law) (defScope s_law) .none kV20 dc20 pm20 an20 cd20 ct20), sl20⟩) (c20 : PySem.W.codeIn K cd20 "law" = true) (k20 : PySem.W.keepIn K (.ref f20) = true)
    (zenumerate : PySem.W.nsIn K mainGlobals "enumerate" = some none)
    (zint : PySem.W.nsIn K mainGlobals "int" = some none)
    (zlen : PySem.W.nsIn K mainGlobals "len" = some none)
    (zlist : PySem.W.nsIn K mainGlobals "list" = some none)
    (zmax : PySem.W.nsIn K mainGlobals "max" = some none)
    (zmin : PySem.W.nsIn K mainGlobals "min" = some none)
    (zrange : PySem.W.nsIn K mainGlobals "range" = some none)
    (zset : PySem.W.nsIn K mainGlobals "set" = some none)
    (zsorted : PySem.W.nsIn K mainGlobals "sorted" = some none)
    (ztuple : PySem.W.nsIn K mainGlobals "tuple" = some none) :
    LamX.LawAtS l w K L2.CX0 8 63 "script" mg fa h := by
  have e := hfa.symm.trans (PySem.W.mg_of X G a20)
  cases e
  have F1 := fun_mk (st := s_law_folded) l1 c1 k1
  have b1 := F1.binds (ps := ["script"]) fun _ _ _ _ _ _ us hl => match us, hl with | [_], _ => rfl
  have F2 := fun_mk (st := s_law_seed) l2 c2 k2
  have b2 := F2.binds (ps := ["cell"]) fun _ _ _ _ _ _ us hl => match us, hl with | [_], _ => rfl
  have F3 := fun_mk (st := s_law_draw) l3 c3 k3
  have b3 := F3.binds (ps := ["seed", "most"]) fun _ _ _ _ _ _ us hl => match us, hl with | [_, _], _ => rfl
  have F4 := fun_mk (st := s_law_name) l4 c4 k4
  have b4 := F4.binds (ps := ["seed", "names"]) fun _ _ _ _ _ _ us hl => match us, hl with | [_, _], _ => rfl
  have F5 := fun_mk (st := s_law_length) l5 c5 k5
  have b5 := F5.binds (ps := ["seed", "kind"]) fun _ _ _ _ _ _ us hl => match us, hl with | [_, _], _ => rfl
  have F6 := fun_mk (st := s_law_tree) l6 c6 k6
  have b6 := F6.binds (ps := ["seed", "most"]) fun _ _ _ _ _ _ us hl => match us, hl with | [_, _], _ => rfl
  have F7 := fun_mk (st := s_ties_of_each) l7 c7 k7
  have b7 := F7.binds (ps := ["tree"]) fun _ _ _ _ _ _ us hl => match us, hl with | [_], _ => rfl
  have F8 := fun_mk (st := s_walk_from) l8 c8 k8
  have b8 := F8.binds (ps := ["tree", "start"]) fun _ _ _ _ _ _ us hl => match us, hl with | [_, _], _ => rfl
  have F9 := fun_mk (st := s_check_places) l9 c9 k9
  have b9 := F9.binds (ps := ["tree", "names"]) fun _ _ _ _ _ _ us hl => match us, hl with | [_, _], _ => rfl
  have F10 := fun_mk (st := s_lengths_from) l10 c10 k10
  have b10 := F10.binds (ps := ["tree", "place"]) fun _ _ _ _ _ _ us hl => match us, hl with | [_, _], _ => rfl
  have F11 := fun_mk (st := s_length_between) l11 c11 k11
  have b11 := F11.binds (ps := ["tree", "one", "other"]) fun _ _ _ _ _ _ us hl => match us, hl with | [_, _, _], _ => rfl
  have F12 := fun_mk (st := s_pairs_in_order) l12 c12 k12
  have b12 := F12.binds (ps := ["tree"]) fun _ _ _ _ _ _ us hl => match us, hl with | [_], _ => rfl
  have F13 : FunC K "nth_farthest" "nth_farthest" s_nth_farthest f13 _ cN := ⟨_, _, _, _, _, _, _, _, rfl, l13, c13⟩
  have G13 := fun_mk (st := s_nth_farthest) l13 c13 k13
  have b13 := G13.binds (ps := ["tree", "place"]) fun _ _ _ _ _ _ us hl => match us, hl with | [_, _], _ => rfl
  have F14 := fun_mk (st := s_count_so_far) l14 c14 k14
  have b14 := F14.binds (ps := ["tree", "length"]) fun _ _ _ _ _ _ us hl => match us, hl with | [_, _], _ => rfl
  have F15 := fun_mk (st := s_farthest) l15 c15 k15
  have b15 := F15.binds (ps := ["tree"]) fun _ _ _ _ _ _ us hl => match us, hl with | [_], _ => rfl
  have F16 := fun_mk (st := s_all_farthest) l16 c16 k16
  have b16 := F16.binds (ps := ["tree"]) fun _ _ _ _ _ _ us hl => match us, hl with | [_], _ => rfl
  have F17 := fun_mk (st := s_law_numbered_right) l17 c17 k17
  have b17 := F17.binds (ps := ["tree"]) fun _ _ _ _ _ _ us hl => match us, hl with | [_], _ => rfl
  have F18 := fun_mk (st := s_law_ends_right) l18 c18 k18
  have b18 := F18.binds (ps := ["tree"]) fun _ _ _ _ _ _ us hl => match us, hl with | [_], _ => rfl
  have F19 := fun_mk (st := s_law_otherwise_right) l19 c19 k19
  have b19 := F19.binds (ps := ["seed", "tree"]) fun _ _ _ _ _ _ us hl => match us, hl with | [_, _], _ => rfl
  have F20 := fun_mk (st := s_law) l20 c20 k20
  have T0 : TxtG mg := ⟨PySem.W.mg_none_of X G zlen, PySem.W.mg_none_of X G zmax, PySem.W.mg_none_of X G zmin, PySem.W.mg_none_of X G zint, PySem.W.mg_none_of X G zrange, PySem.W.mg_none_of X G zlist, PySem.W.mg_none_of X G ztuple⟩
  have TW : TxtW mg := ⟨PySem.W.mg_none_of X G ztuple⟩
  have TQ : TxtQ mg := ⟨PySem.W.mg_none_of X G zlen, PySem.W.mg_none_of X G zrange, PySem.W.mg_none_of X G ztuple, PySem.W.mg_none_of X G zenumerate⟩
  have TN : TxtN mg := ⟨PySem.W.mg_none_of X G zlen, PySem.W.mg_none_of X G zsorted⟩
  have T09 : TxtM09 mg := ⟨PySem.W.mg_none_of X G zlen, PySem.W.mg_none_of X G zmax, PySem.W.mg_none_of X G zrange⟩
  have T10 : Txt10 mg := ⟨PySem.W.mg_none_of X G zlen, PySem.W.mg_none_of X G zrange, PySem.W.mg_none_of X G zset, PySem.W.mg_none_of X G zenumerate, PySem.W.mg_none_of X G ztuple, PySem.W.mg_none_of X G zlist, PySem.W.mg_none_of X G zsorted, PySem.W.mg_none_of X G zmax⟩
  have C_law_folded : ∀ base : Heap, Cal l.prog w K mg base 1 "_law_folded" (spFolded K) := fun base => ⟨f1, _, _, ok_folded F1 T0, PySem.W.mg_of X G a1, k1, b1⟩
  have C_law_seed : ∀ base : Heap, Cal l.prog w K mg base 1 "_law_seed" spSeed := fun base => ⟨f2, _, _, ok_seed F2 T0, PySem.W.mg_of X G a2, k2, b2⟩
  have C_law_draw : ∀ base : Heap, Cal l.prog w K mg base 1 "_law_draw" spDraw := fun base => ⟨f3, _, _, ok_draw F3 T0, PySem.W.mg_of X G a3, k3, b3⟩
  have C_law_name : ∀ base : Heap, Cal l.prog w K mg base 2 "_law_name" spName := fun base => ⟨f4, _, _, ok_name F4 T0 (C_law_draw base), PySem.W.mg_of X G a4, k4, b4⟩
  have C_law_length : ∀ base : Heap, Cal l.prog w K mg base 2 "_law_length" spLength := fun base => ⟨f5, _, _, ok_length F5 (C_law_draw base), PySem.W.mg_of X G a5, k5, b5⟩
  have C_law_tree : ∀ base : Heap, Cal l.prog w K mg base 3 "_law_tree" spTree := fun base => ⟨f6, _, _, ok_tree F6 T0 (C_law_draw base) (C_law_name base) (C_law_length base), PySem.W.mg_of X G a6, k6, b6⟩
  have C_ties_of_each : ∀ base : Heap, Cal l.prog w K mg base 1 "_ties_of_each" spTies := fun base => ⟨f7, _, _, ok_ties_of_each F7, PySem.W.mg_of X G a7, k7, b7⟩
  have Cwalk_from : ∀ base : Heap, Cal l.prog w K mg base 2 "walk_from" spWalk := fun base => ⟨f8, _, _, ok_walk_from F8 (C_ties_of_each base), PySem.W.mg_of X G a8, k8, b8⟩
  have Ccheck_places : ∀ base : Heap, Cal l.prog w K mg base 1 "check_places" spCheck := fun base => ⟨f9, _, _, ok_check_places F9, PySem.W.mg_of X G a9, k9, b9⟩
  have Clengths_from : ∀ base : Heap, Cal l.prog w K mg base 3 "lengths_from" spLens := fun base => ⟨f10, _, _, ok_lengths_from F10 TW (Ccheck_places base) (Cwalk_from base), PySem.W.mg_of X G a10, k10, b10⟩
  have Clength_between : ∀ base : Heap, Cal l.prog w K mg base 3 "length_between" spLen := fun base => ⟨f11, _, _, ok_length_between F11 (Ccheck_places base) (Cwalk_from base), PySem.W.mg_of X G a11, k11, b11⟩
  have Cpairs_in_order : ∀ base : Heap, Cal l.prog w K mg base 4 "pairs_in_order" spPio := fun base => ⟨f12, _, _, ok_pio F12 TQ (Clengths_from base), PySem.W.mg_of X G a12, k12, b12⟩
  have Cnth_farthest : ∀ base : Heap, LamX.TabB base mg cN Pt → Cal l.prog w K mg base 5 "nth_farthest" (spNth Pt) := fun base TB => ⟨f13, _, _, ok_nth F13 TN TB (Cpairs_in_order base), PySem.W.mg_of X G a13, k13, b13⟩
  have Ccount_so_far : ∀ base : Heap, Cal l.prog w K mg base 5 "count_so_far" spCount := fun base => ⟨f14, _, _, ok_count F14 T09 (Cpairs_in_order base), PySem.W.mg_of X G a14, k14, b14⟩
  have Cfarthest : ∀ base : Heap, Cal l.prog w K mg base 5 "farthest" spFarthest := fun base => ⟨f15, _, _, ok_farthest F15 (Cpairs_in_order base), PySem.W.mg_of X G a15, k15, b15⟩
  have Call_farthest : ∀ base : Heap, Cal l.prog w K mg base 6 "all_farthest" spAllFarthest := fun base => ⟨f16, _, _, ok_all_farthest F16 TQ (Cpairs_in_order base) (Cfarthest base), PySem.W.mg_of X G a16, k16, b16⟩
  have C_law_numbered_right : ∀ base : Heap, LamX.TabB base mg cN Pt → Cal l.prog w K mg base 7 "_law_numbered_right" (spNumR Pt) := fun base TB => ⟨f17, _, _, ok_numr F17 T10 (Cnth_farthest base TB) (Call_farthest base) (Cfarthest base) (Clength_between base) (Ccount_so_far base), PySem.W.mg_of X G a17, k17, b17⟩
  have C_law_ends_right : ∀ base : Heap, Cal l.prog w K mg base 7 "_law_ends_right" spEndsR := fun base => ⟨f18, _, _, ok_endsr F18 T10 (Call_farthest base) (Clengths_from base), PySem.W.mg_of X G a18, k18, b18⟩
  have C_law_otherwise_right : ∀ base : Heap, Cal l.prog w K mg base 7 "_law_otherwise_right" spOthR := fun base => ⟨f19, _, _, ok_othr F19 T10 (C_law_draw base) (C_law_name base) (Cfarthest base) (Call_farthest base), PySem.W.mg_of X G a19, k19, b19⟩
  have tN : PySem.W.tabIn K "nth_farthest" = some (cN, Pt) := by
    unfold PySem.W.tabIn
    simp only [a13, l13, kc, vP]
  have one : ∀ {p : Addr × Addr}, p ∈ [(cN, Pt)] → p = (cN, Pt) := fun hp => List.mem_singleton.mp hp
  refine ⟨_, [(cN, Pt)], spLawT K Pt, fun p hp => ?_, fun p hp => ?_, fun p hp => ?_, fun s v => .of_eq rfl, fun H a ns hl hb hH hS => ?_, fun base _ _ TB => ok_law F20 T0 (C_law_folded base) (C_law_seed base) (C_law_tree base) (C_law_numbered_right base (TB _ (List.mem_singleton.mpr rfl))) (C_law_ends_right base) (C_law_otherwise_right base)⟩
  · rw [one hp]
    exact (tab _ _ tN).2
  · rw [one hp]
    exact nT
  · rw [one hp]
    exact (tab _ _ tN).1
  · refine ⟨a, ns, rfl, hS, hl, fun p hp => ?_, fun _ => rfl⟩
    rw [List.mem_singleton.mp hp]
    exact LamX.TabS.nil (hH _ (List.mem_singleton.mpr rfl))
end Far
open PySem PySem.W PyProof.Rows in
set_option maxRecDepth 100000 in
set_option maxHeartbeats 0 in
theorem PySem.Challenge.cw_farplaces_k10_whole_pairs_together_holds : PySem.Challenge.rw_farplaces_k10_whole_pairs_together.Holds := by
  w_on; o_law; k_head; (case hw => w_witness2)
  k_fill
  refine Far.walk_nm (l := PySem.Challenge.rw_farplaces_k10_whole_pairs_together) (k := 8) (x := "script") (nm := "nth_farthest") ⟨rfl, by decide, by decide⟩ rfl rfl (by rfl) (fun w h Y => PySem.W.km_in_of Y) ?F
  case F =>
    intro w mg fa h KX G hmg tab
    refine' Far.all_mk KX G hmg ?kc ?vP ?nT tab ?a1 ?l1 ?c1 ?k1 ?a2 ?l2 ?c2 ?k2 ?a3 ?l3 ?c3 ?k3 ?a4 ?l4 ?c4 ?k4 ?a5 ?l5 ?c5 ?k5 ?a6 ?l6 ?c6 ?k6 ?a7 ?l7 ?c7 ?k7 ?a8 ?l8 ?c8 ?k8 ?a9 ?l9 ?c9 ?k9 ?a10 ?l10 ?c10 ?k10 ?a11 ?l11 ?c11 ?k11 ?a12 ?l12 ?c12 ?k12 ?a13 ?l13 ?c13 ?k13 ?a14 ?l14 ?c14 ?k14 ?a15 ?l15 ?c15 ?k15 ?a16 ?l16 ?c16 ?k16 ?a17 ?l17 ?c17 ?k17 ?a18 ?l18 ?c18 ?k18 ?a19 ?l19 ?c19 ?k19 ?a20 ?l20 ?c20 ?k20 ?zenumerate ?zint ?zlen ?zlist ?zmax ?zmin ?zrange ?zset ?zsorted ?ztuple
    (case a1 => k_is); (case l1 => k_is); (case c1 => k_is); (case k1 => k_is); (case a2 => k_is); (case l2 => k_is); (case c2 => k_is); (case k2 => k_is); (case a3 => k_is); (case l3 => k_is); (case c3 => k_is); (case k3 => k_is); (case a4 => k_is); (case l4 => k_is); (case c4 => k_is); (case k4 => k_is); (case a5 => k_is); (case l5 => k_is); (case c5 => k_is); (case k5 => k_is); (case a6 => k_is); (case l6 => k_is); (case c6 => k_is); (case k6 => k_is); (case a7 => k_is); (case l7 => k_is); (case c7 => k_is); (case k7 => k_is); (case a8 => k_is); (case l8 => k_is); (case c8 => k_is); (case k8 => k_is); (case a9 => k_is); (case l9 => k_is); (case c9 => k_is); (case k9 => k_is); (case a10 => k_is); (case l10 => k_is); (case c10 => k_is); (case k10 => k_is); (case a11 => k_is); (case l11 => k_is); (case c11 => k_is); (case k11 => k_is); (case a12 => k_is); (case l12 => k_is); (case c12 => k_is); (case k12 => k_is); (case a13 => k_is); (case l13 => k_is); (case c13 => k_is); (case k13 => k_is); (case a14 => k_is); (case l14 => k_is); (case c14 => k_is); (case k14 => k_is); (case a15 => k_is); (case l15 => k_is); (case c15 => k_is); (case k15 => k_is); (case a16 => k_is); (case l16 => k_is); (case c16 => k_is); (case k16 => k_is); (case a17 => k_is); (case l17 => k_is); (case c17 => k_is); (case k17 => k_is); (case a18 => k_is); (case l18 => k_is); (case c18 => k_is); (case k18 => k_is); (case a19 => k_is); (case l19 => k_is); (case c19 => k_is); (case k19 => k_is); (case a20 => k_is); (case l20 => k_is); (case c20 => k_is); (case k20 => k_is); (case zenumerate => k_is); (case zint => k_is); (case zlen => k_is); (case zlist => k_is); (case zmax => k_is); (case zmin => k_is); (case zrange => k_is); (case zset => k_is); (case zsorted => k_is); (case ztuple => k_is)
    (case kc => k_is); (case vP => exact rfl); (case nT => first | k_is | exact rfl)

