import PyProof.Rows.All
import Wide.All
import OpenK.AllK
import Wide.FinOn
import HandS.ForMost
import HandS.Wide
import HandS.Codes
import HandS.Conv
import HandS.TupAny
import HandS.Style
import HandS.IsInst
import HandS.FStr
import HandS.DictComp
import HandS.NoneIn
import HandS.Strs
import HandS.Gcd
import HandS.List
import KE.KTupSum
import KE.GoesMore
import PyProof.WalkInts
import KE.GoesEnum
import HandS.Zip
import PyProof.EnumMake
import HandS.TupLe
import PySem.Challenge.RW_farplaces_k14_whole_middles
set_option Elab.async false
set_option linter.all false
set_option maxRecDepth 100000
set_option maxHeartbeats 8000000
namespace Far
open PySem PySem.Spec PyProof.Rows L2
open C8 (pss_cut tCut)
open SX (S)
def topS (i : Nat) : Stmt := PySem.Challenge.pw_farplaces_k14_whole_middles.main.body.getD i (.Pass ⟨0, 0, 0, 0⟩)

theorem hd_of {A : Around} {k : Nat} (hr : Room k A) (h : 1 ≤ k) : A.units + 64 < cLine := by
  have := hr.units
  omega

/-- a def of the module that may be called by its name -/
structure Cal (P : Program) (w : World) (K : PySem.W.Frag) (mg : Str → Option Value) (base : Heap) (k : Nat) (x : Str) (sp : Sp) : Prop where
  ex : ∃ (f : Addr) (fd : FuncData) (ps : List Str), FnOk P w K mg base CX0 k f fd ps sp ∧ mg x = some (.ref f) ∧ PySem.W.keepIn K (.ref f) = true ∧ Binds K fd ps []
theorem pe_c {X : Cx} {k j : Nat} {x : Str} {sp : Sp} {p pos : Pos} {e : Expr} {es : List Expr} {t : TA} (c : Cal X.prog X.w X.K X.mg X.base k x sp) (hr : Room j X.A) (hk : k ≤ j) (hg : Gl X x) (ha : PA X (e :: es) t)
    (hdb : (x == ("__debug__" : Str)) = false := by decide) (he : starEach (e :: es) X.env = (false, eval e X.env) :: starEach es X.env := by rfl) (hpl : (backTo pos (starEach es X.env)).any (·.1) = false := by rfl) :
    PE X (.Call (.Name x p) (e :: es) [] pos) (tCall sp [] E0 t) := by
  obtain ⟨f, fd, ps, F, hm, kp, b⟩ := c.ex
  exact pe_call F (hr.mono hk) hg hm kp b .nil pass0 ha hdb he hpl

theorem bt_len : bootBuiltins ("len" : Str) = some (.builtin "len") := by decide +kernel
theorem bt_sum : bootBuiltins ("sum" : Str) = some (.builtin "sum") := by decide +kernel
theorem bt_max : bootBuiltins ("max" : Str) = some (.builtin "max") := by decide +kernel
theorem bt_all : bootBuiltins ("all" : Str) = some (.builtin "all") := by decide +kernel
theorem bt_isinstance : bootBuiltins ("isinstance" : Str) = some (.builtin "isinstance") := by decide +kernel
theorem bt_int : bootBuiltins ("int" : Str) = some (.type "int") := by decide +kernel
theorem bt_str : bootBuiltins ("str" : Str) = some (.type "str") := by decide +kernel
theorem bt_tuple : bootBuiltins ("tuple" : Str) = some (.type "tuple") := by decide +kernel
theorem bt_bool : bootBuiltins ("bool" : Str) = some (.type "bool") := by decide +kernel
theorem bt_list : bootBuiltins ("list" : Str) = some (.type "list") := by decide +kernel
/-- rules with the written part named, for use within a comprehension -/
def rLenV (K : PySem.W.Frag) : List V → Hp → VK → Prop := fun xs H Q => ∃ x n, xs = [x] ∧ LenV K x H n ∧ Q (.int n) H
theorem lenK {X : Cx} {K : PySem.W.Frag} (e : X.K = K := by rfl) : CallR X (.builtin "len") (rLenV K) := by
  subst e
  exact call_len
theorem ixl {X : Cx} {K : PySem.W.Frag} (e : X.K = K := by rfl) : IxR X (rIxL K) := by
  subst e
  exact ix_list
theorem ixt {X : Cx} {K : PySem.W.Frag} (e : X.K = K := by rfl) : IxR X (rIxT K) := by
  subst e
  exact ix_tup
/-- what the module's names hold that are built-ins, and its constants -/
structure Txt (mg : Str → Option Value) : Prop where
  len : mg "len" = none
  sum : mg "sum" = none
  range : mg "range" = none
  int : mg "int" = none
  max : mg "max" = none
  list : mg "list" = none
  tuple : mg "tuple" = none

/-- all that stood stands as it was, but for the one object -/
def SmX (d : Addr) (H H' : Hp) : Prop := ∀ b o, b ≠ d → H b = some o → H' b = some o
theorem SmX.refl {d : Addr} (H : Hp) : SmX d H H := fun _ _ _ h => h
theorem SmX.trans {d : Addr} {H H1 H2 : Hp} (a : SmX d H H1) (b : SmX d H1 H2) : SmX d H H2 := fun x o n h => b x o n (a x o n h)
theorem SmX.new {d : Addr} {H H1 : Hp} {p : Addr} {o : HO} (a : SmX d H H1) (n : H1 p = none) : SmX d H (upd H1 p o) := fun x u nx h => by
  rw [upd_ne (ne_of_none (a x u nx h) n)]
  exact a x u nx h
theorem SmX.mut {d : Addr} {H H1 : Hp} {o : HO} (a : SmX d H H1) : SmX d H (upd H1 d o) := fun x u nx h => by
  rw [upd_ne nx]
  exact a x u nx h
/-- an object that the first heap does not know may change -/
theorem SmX.put {d : Addr} {H H1 : Hp} {p : Addr} {o : HO} (a : SmX d H H1) (n : H p = none) : SmX d H (upd H1 p o) := fun x u nx h => by
  rw [upd_ne (ne_of_none h n)]
  exact a x u nx h

/-- the deck at d, its cells at c: at most n were mixed -/
def DeckAt (H : Hp) (d c : Addr) (n : Nat) : Prop := ∃ (cs : List Int) (i l m z : Int), H d = some (.lst [.ref c, .int i, .int l, .int m, .int z]) ∧ H c = some (.lst (cs.map V.int)) ∧ c ≠ d ∧ cs.length ≤ 63 ∧ 0 ≤ i ∧ i ≤ 63 ∧ 0 ≤ l ∧ 0 ≤ m ∧ m ≤ n
theorem DeckAt.new {H : Hp} {d c p : Addr} {o : HO} {n : Nat} (h : DeckAt H d c n) (np : H p = none) : DeckAt (upd H p o) d c n := by
  obtain ⟨cs, i, l, m, z, h1, h2, h3⟩ := h
  exact ⟨cs, i, l, m, z, by rw [upd_ne (ne_of_none h1 np)]; exact h1, by rw [upd_ne (ne_of_none h2 np)]; exact h2, h3⟩
theorem DeckAt.put {H : Hp} {d c p : Addr} {o : HO} {n : Nat} (h : DeckAt H d c n) (nd : p ≠ d) (nc : p ≠ c) : DeckAt (upd H p o) d c n := by
  obtain ⟨cs, i, l, m, z, h1, h2, h3⟩ := h
  exact ⟨cs, i, l, m, z, by rw [upd_ne nd.symm]; exact h1, by rw [upd_ne nc.symm]; exact h2, h3⟩
theorem DeckAt.nd {H : Hp} {d c p : Addr} {n : Nat} (h : DeckAt H d c n) (np : H p = none) : p ≠ d := fun e => by
  obtain ⟨_, _, _, _, _, h1, _⟩ := h
  rw [e, h1] at np
  cases np
theorem DeckAt.nc {H : Hp} {d c p : Addr} {n : Nat} (h : DeckAt H d c n) (np : H p = none) : p ≠ c := fun e => by
  obtain ⟨_, _, _, _, _, _, h2, _⟩ := h
  rw [e, h2] at np
  cases np
theorem DeckAt.mono {H : Hp} {d c : Addr} {n m : Nat} (h : DeckAt H d c n) (le : n ≤ m) : DeckAt H d c m := by
  obtain ⟨cs, i, l, m', z, h1, h2, h3, h4, h5, h6, h7, h8, h9⟩ := h
  exact ⟨cs, i, l, m', z, h1, h2, h3, h4, h5, h6, h7, h8, by omega⟩
theorem SmX.free {d : Addr} {H H' : Hp} {p : Addr} (a : SmX d H H') (n : H' p = none) (nd : p ≠ d) : H p = none := by
  cases q : H p with
  | none => rfl
  | some o =>
    rw [a p o nd q] at n
    cases n

/-- the signs of a name -/
def NameOk (l : List Nat) : Prop := 1 ≤ l.length ∧ l.length ≤ 8 ∧ ∀ c ∈ l, 97 ≤ c ∧ c ≤ 122
theorem sz_le {n : Nat} (h : n ≤ 100000) : n ≤ sizeLine := Nat.le_trans h (by decide)
theorem sz_lt {n : Nat} (h : n ≤ 100000) : n < sizeLine := Nat.lt_of_le_of_lt h (by decide)
theorem atI_in {α : Type} {xs : List α} {i : Int} (h0 : 0 ≤ i) (h1 : i < xs.length) : ∃ v, atI xs i = some v ∧ v ∈ xs := by
  have e : i = ((i.toNat : Nat) : Int) := by omega
  have l : i.toNat < xs.length := by omega
  refine ⟨xs[i.toNat], ?_, List.getElem_mem l⟩
  have q := atI_nat (List.getElem?_eq_getElem l)
  rwa [← e] at q
theorem S_of (z : Str) : ∃ l, z = S l := ⟨z.cps.toList, (SX.S_tl z).symm⟩
theorem join_none : ∀ ys : List (List Nat), TL.joinL [] ys = ys.flatten
  | [] => rfl
  | [x] => by simp [TL.joinL]
  | x :: y :: r => by
    have ih := join_none (y :: r)
    show x ++ ([] ++ TL.joinL [] (y :: r)) = x ++ (y :: r).flatten
    rw [ih]
    rfl
theorem flat_one (cs : List Nat) : (cs.map fun c => [c]).flatten = cs := by
  induction cs with
  | nil => rfl
  | cons c r ih => rw [List.map_cons, List.flatten_cons, ih]; rfl
theorem one_sum' (cs : List Nat) : ((cs.map fun c => S [c]).map (·.length)).sum = cs.length := by
  induction cs with
  | nil => rfl
  | cons c r ih =>
    rw [List.map_cons, List.map_cons, List.sum_cons, ih, List.length_cons, SX.S_len]
    show 1 + r.length = r.length + 1
    omega
theorem bt_min : bootBuiltins ("min" : Str) = some (.builtin "min") := by decide +kernel
theorem same_new {H H1 : Hp} {p : Addr} {o : HO} (a : Same H H1) (n : H1 p = none) : Same H (upd H1 p o) := fun x u h => by
  rw [upd_ne (ne_of_none (a x u h) n)]
  exact a x u h
theorem same_put {H H1 : Hp} {p : Addr} {o : HO} (a : Same H H1) (n : H p = none) : Same H (upd H1 p o) := fun x u h => by
  rw [upd_ne (ne_of_none h n)]
  exact a x u h
end Far

namespace Far
open PySem PySem.Spec PyProof.Rows L2
open C8 (pss_cut tCut)
open SX (S)
structure TxtG (mg : Str → Option Value) : Prop where
  len : mg "len" = none
  max : mg "max" = none
  min : mg "min" = none
  int : mg "int" = none
  range : mg "range" = none
  list : mg "list" = none
  tuple : mg "tuple" = none
/-- the seed at d, drawn from n times at most -/
def SeedAt (H : Hp) (d : Addr) (n : Nat) : Prop := ∃ a f k m : Int, H d = some (.lst [.int a, .int f, .int k, .int m]) ∧ 0 ≤ a ∧ 0 ≤ k ∧ k ≤ n ∧ 0 ≤ m ∧ m < 1999999913
theorem SeedAt.new {H : Hp} {d p : Addr} {o : HO} {n : Nat} (h : SeedAt H d n) (np : H p = none) : SeedAt (upd H p o) d n := by
  obtain ⟨a, f, k, m, h1, h2⟩ := h
  exact ⟨a, f, k, m, by rw [upd_ne (ne_of_none h1 np)]; exact h1, h2⟩
theorem SeedAt.put {H : Hp} {d p : Addr} {o : HO} {n : Nat} (h : SeedAt H d n) (nd : p ≠ d) : SeedAt (upd H p o) d n := by
  obtain ⟨a, f, k, m, h1, h2⟩ := h
  exact ⟨a, f, k, m, by rw [upd_ne nd.symm]; exact h1, h2⟩
theorem SeedAt.nd {H : Hp} {d p : Addr} {n : Nat} (h : SeedAt H d n) (np : H p = none) : p ≠ d := fun e => by
  obtain ⟨a, f, k, m, h1, _⟩ := h
  rw [e, h1] at np
  cases np
theorem SeedAt.mono {H : Hp} {d : Addr} {n m : Nat} (h : SeedAt H d n) (l : n ≤ m) : SeedAt H d m := by
  obtain ⟨a, f, k, z, h1, h2, h3, h4, h5⟩ := h
  exact ⟨a, f, k, z, h1, h2, h3, by omega, h5⟩
theorem SeedAt.lst {H : Hp} {d : Addr} {n : Nat} (h : SeedAt H d n) : ∃ xs, H d = some (.lst xs) := by
  obtain ⟨_, _, _, _, h1, _⟩ := h
  exact ⟨_, h1⟩
abbrev s_law_folded : Stmt := topS 25
abbrev N_law_folded : List Str := ["script", "found", "cell"]
theorem sc_law_folded : FnScope N_law_folded ["script"] (defScope s_law_folded) := ⟨rfl, rfl, rfl, by decide +kernel, rfl, by decide +kernel, by decide +kernel⟩
section
variable {P : Program} {w : World} {K : PySem.W.Frag} {mg : Str → Option Value} {base : Heap}
def spFolded (K : PySem.W.Frag) : Sp := fun vs H Q _ => ∃ (a : Addr) (ns : List Int), vs = [.ref a] ∧ SqL K H a (ns.map V.int) ∧ ns.length ≤ 63 ∧ ∀ r : Int, 0 ≤ r → Q (.int r) H
theorem ok_folded {f : Addr} {fd : FuncData} (F : Fun K "_law_folded" "_law_folded" s_law_folded f fd) (T : TxtG mg) : FnOk P w K mg base CX0 1 f fd ["script"] (spFolded K) := by
  refine F.ok sc_law_folded (fun vs H Q E h => ?_) (fun cdv A outer s H vs Q E hr h => ?_)
  · obtain ⟨a, ns, rfl, _⟩ := h
    rfl
  · obtain ⟨a, ns, rfl, hS, hl, q⟩ := h
    refine ⟨_, (pss_cons (ps_set (i := 1) sc_law_folded.nd rfl (.inl rfl) (pe_callB call_len_seq (by rfl) T.len bt_len (pa_cons (pv 0) pa_nil)))
      (pss_cut (ps_for PassesOwn.never rfl (pi_list (pv 0)) (pg_name (i := 2) sc_law_folded.nd rfl (.inl rfl))
        (pss_one (ps_set (i := 1) sc_law_folded.nd rfl (.inl rfl) (pe_op op_mod (pe_op op_add (pe_op op_mul (pv 1) pe_int) (pe_op op_mod (pv 2) pe_int)) pe_int))))
      (pss_one (ps_ret (pv 1))))), ?_⟩
    refine ⟨_, rfl, a, _, rfl, .inl hS, ?_⟩
    refine ⟨fun σ' H' => ∃ (r : Int) (x : Option V), σ' = [some (.ref a), some (.int r), x] ∧ 0 ≤ r ∧ H' = H, ?_, fun σ' H' hM => ?_⟩
    · refine ⟨_, rfl, a, rfl, ⟨_, hS⟩, for_list (K := K) (a := a) (xs := ns.map V.int) (fun i σ' H' => ∃ (r : Int) (x : Option V), σ' = [some (.ref a), some (.int r), x] ∧ 0 ≤ r ∧ r < 2147483647 ∧ H' = H) ⟨_, _, rfl, by omega, by rw [List.length_map]; omega, rfl⟩ (fun i σ' H' _ hP => ?_) (fun i v σ' H' hi hP => ?_) (fun σ' H' hP => ?_)⟩
      · obtain ⟨_, _, _, _, _, rfl⟩ := hP
        exact hS
      · obtain ⟨r, x, rfl, r0, r1, rfl⟩ := hP
        rw [List.getElem?_map] at hi
        cases e : ns[i]? with
        | none =>
          rw [e] at hi
          cases hi
        | some c =>
          rw [e] at hi
          have ev : v = .int c := (Option.some.inj hi).symm
          subst ev
          refine ⟨_, rfl, _, _, rfl, rfl, .inl ⟨by omega, by omega⟩, _, rfl, _, _, rfl, rfl, (by show (0 : Int) < _; decide), _, _, rfl, rfl, _, _, rfl, rfl, (by show (0 : Int) < _; decide), ?_⟩
          exact ⟨_, _, rfl, Int.emod_nonneg _ (by decide), Int.emod_lt_of_pos _ (by decide), rfl⟩
      · obtain ⟨r, x, rfl, r0, r1, rfl⟩ := hP
        exact ⟨r, x, rfl, r0, rfl⟩
    · obtain ⟨r, x, rfl, r0, rfl⟩ := hM
      exact ⟨_, rfl, q r r0⟩
end
abbrev s_law_seed : Stmt := topS 26
abbrev N_law_seed : List Str := ["cell", "number"]
theorem sc_law_seed : FnScope N_law_seed ["cell"] (defScope s_law_seed) := ⟨rfl, rfl, rfl, by decide +kernel, rfl, by decide +kernel, by decide +kernel⟩
section
variable {P : Program} {w : World} {K : PySem.W.Frag} {mg : Str → Option Value} {base : Heap}
def spSeed : Sp := fun vs H Q _ => ∃ c : Int, vs = [.int c] ∧ ∀ (H' : Hp) (d : Addr), Same H H' → H d = none → SeedAt H' d 0 → Q (.ref d) H'
theorem ok_seed {f : Addr} {fd : FuncData} (F : Fun K "_law_seed" "_law_seed" s_law_seed f fd) (T : TxtG mg) : FnOk P w K mg base CX0 1 f fd ["cell"] spSeed := by
  refine F.ok sc_law_seed (fun vs H Q E h => ?_) (fun cdv A outer s H vs Q E hr h => ?_)
  · obtain ⟨c, rfl, _⟩ := h
    rfl
  · obtain ⟨c, rfl, q⟩ := h
    refine ⟨_, (pss_cons (ps_set (i := 1) sc_law_seed.nd rfl (.inl rfl) (pe_callB (call_max2 rfl) (by rfl) T.max bt_max (pa_cons (pv 0) (pa_cons (pe_op op_sub pe_int (pv 0)) pa_nil))))
      (pss_one (ps_ret (pe_lst (pa_cons (pv 1) (pa_cons (pe_callTy call_int1 (by rfl) T.int bt_int (pa_cons (pe_cmpR op_ge (pv 1) (pe_op op_pow pe_int pe_int) (nomark _)) pa_nil)) (pa_cons pe_int (pa_cons (pe_op op_mod (pv 0) pe_int) pa_nil)))))))), ?_⟩
    refine ⟨_, rfl, _, rfl, _, _, rfl, rfl, _, _, rfl, ?_⟩
    refine ⟨_, rfl, _, rfl, _, _, rfl, rfl, ⟨by decide, by decide, by decide⟩, _, _, rfl, rfl, .inr ⟨_, rfl, ?_⟩⟩
    refine ⟨_, rfl, _, _, rfl, rfl, (by show (0 : Int) < _; decide), (by show 4 ≤ sizeLine; decide), fun d nd => ?_⟩
    refine q _ d (same_new (Same.refl H) nd) nd ⟨_, _, 0, c % 1999999913, upd_same, ?_, by omega, by omega, by omega, by omega⟩
    split <;> omega
end
abbrev s_law_draw : Stmt := topS 27
abbrev N_law_draw : List Str := ["seed", "most", "found", "number"]
theorem sc_law_draw : FnScope N_law_draw ["seed", "most"] (defScope s_law_draw) := ⟨rfl, rfl, rfl, by decide +kernel, rfl, by decide +kernel, by decide +kernel⟩
section
variable {P : Program} {w : World} {K : PySem.W.Frag} {mg : Str → Option Value} {base : Heap}
def spDraw : Sp := fun vs H Q _ => ∃ (d : Addr) (n : Nat) (many : Int), vs = [.ref d, .int many] ∧ SeedAt H d n ∧ n < 100000 ∧ 0 < many ∧ many < 2 ^ 60 ∧ ∀ (H' : Hp) (r : Int), 0 ≤ r → r < many → SmX d H H' → SeedAt H' d (n + 1) → Q (.int r) H'
theorem ok_draw {f : Addr} {fd : FuncData} (F : Fun K "_law_draw" "_law_draw" s_law_draw f fd) (T : TxtG mg) : FnOk P w K mg base CX0 1 f fd ["seed", "most"] spDraw := by
  refine F.ok sc_law_draw (fun vs H Q E h => ?_) (fun cdv A outer s H vs Q E hr h => ?_)
  · obtain ⟨d, n, many, rfl, _⟩ := h
    rfl
  · obtain ⟨d, n, many, rfl, ⟨a, g, k, m, h1, a0, k0, k1, m0, m1⟩, hn, hm0, hm1, q⟩ := h
    refine ⟨_, (pss_cons (ps_asg (pe_op op_add (pe_ix ix_list (pv 0) pe_int (fun _ _ => rfl)) pe_int) (pg_sub (pv 0) pe_int set_list))
      (pss_cut (ps_if (PW.pt (pw_and (pt_cmpR op_eq (pe_ix ix_list (pv 0) pe_int (fun _ _ => rfl)) pe_int (nomark _)) (pw_and1 (pt_cmpR op_gt (pe_ix ix_list (pv 0) pe_int (fun _ _ => rfl)) pe_int (nomark _)))))
        (pss_cons (ps_set (i := 2) sc_law_draw.nd rfl (.inl rfl) (pe_op op_mod (pe_ix ix_list (pv 0) pe_int (fun _ _ => rfl)) (pv 1)))
        (pss_cons (ps_asg (pe_op op_fdivW (pe_ix ix_list (pv 0) pe_int (fun _ _ => rfl)) (pv 1)) (pg_sub (pv 0) pe_int set_list))
        (pss_one (ps_ret (pv 2)))))
        pss_nil)
      (pss_cons (ps_set (i := 3) sc_law_draw.nd rfl (.inl rfl) (pe_op op_mod (pe_op op_mul (pe_op op_add (pe_op op_add (pe_ix ix_list (pv 0) pe_int (fun _ _ => rfl)) (pe_op op_mul pe_int (pe_ix ix_list (pv 0) pe_int (fun _ _ => rfl)))) pe_int) pe_int) pe_int))
      (pss_cons (ps_set (i := 3) sc_law_draw.nd rfl (.inl rfl) (pe_op op_mod (pe_op op_mul (pe_op op_mod (pe_op op_mul (pv 3) (pv 3)) pe_int) pe_int) pe_int))
      (pss_one (ps_ret (pe_op op_mod (pe_op op_fdiv (pv 3) pe_int) (pv 1)))))))), ?_⟩
    refine ⟨_, rfl, d, _, 2, _, rfl, rfl, SqL.of h1, rfl, k, 1, rfl, rfl, ?_⟩
    refine ⟨_, rfl, d, _, 2, 2, rfl, rfl, h1, rfl, ?_⟩
    have h2 : (upd H d (.lst [.int a, .int g, .int (k + 1), .int m])) d = some (.lst [.int a, .int g, .int (k + 1), .int m]) := upd_same
    have S1 : SmX d H (upd H d (.lst [.int a, .int g, .int (k + 1), .int m])) := (SmX.refl H).mut
    refine ⟨fun σ' H' => σ' = [some (.ref d), some (.int many), none, none] ∧ SmX d H H' ∧ H' d = some (.lst [.int a, .int g, .int (k + 1), .int m]), ?_, fun σ' H1 hM => ?_⟩
    · refine ⟨_, rfl, d, _, 1, _, rfl, rfl, SqL.of h2, rfl, rfl, _, rfl, ?_⟩
      refine ite2 (fun e => ?_) (fun e => ⟨rfl, S1, h2⟩)
      refine ⟨_, rfl, d, _, 0, _, rfl, rfl, SqL.of h2, rfl, _, _, rfl, rfl, _, rfl, ?_⟩
      refine ite2 (fun e => ?_) (fun e => ⟨rfl, S1, h2⟩)
      refine ⟨_, rfl, d, _, 0, _, rfl, rfl, SqL.of h2, rfl, _, rfl, _, _, rfl, rfl, hm0, ?_⟩
      refine ⟨_, rfl, d, _, 0, _, rfl, rfl, SqL.of h2, rfl, _, rfl, _, _, rfl, rfl, wide_div (b := 60) hm0 (by omega) (by decide) (by decide), ?_⟩
      refine ⟨_, rfl, d, _, 0, 0, rfl, rfl, h2, rfl, ?_⟩
      refine ⟨_, rfl, ?_⟩
      exact q _ _ (Int.emod_nonneg _ (by omega)) (Int.emod_lt_of_pos _ hm0) S1.mut ⟨a / many, g, k + 1, m, upd_same, Int.ediv_nonneg a0 (by omega), by omega, by omega, m0, m1⟩
    · obtain ⟨rfl, SM, h3⟩ := hM
      refine ⟨_, rfl, d, _, 3, _, rfl, rfl, SqL.of h3, rfl, _, rfl, d, _, 2, _, rfl, rfl, SqL.of h3, rfl, _, _, rfl, rfl, .inl ⟨by omega, by omega⟩, _, _, rfl, rfl, _, _, rfl, rfl, _, _, rfl, rfl, .inl ⟨by omega, by omega⟩, _, _, rfl, rfl, (by show (0 : Int) < _; decide), ?_⟩
      generalize hx : (m + 6997 * (k + 1) + 11) * 48271 % 2147483647 = x
      have x0 : 0 ≤ x := by omega
      have x1 : x < 2147483647 := by omega
      refine ⟨_, rfl, _, rfl, _, _, rfl, rfl, .inl ⟨by omega, by omega⟩, _, _, rfl, rfl, (by show (0 : Int) < _; decide), ?_⟩
      generalize hy : x * x % 2147483629 = y
      have y0 : 0 ≤ y := by omega
      have y1 : y < 2147483629 := by omega
      refine ⟨_, _, rfl, rfl, .inl ⟨by omega, by omega⟩, _, _, rfl, rfl, (by show (0 : Int) < _; decide), ?_⟩
      refine ⟨_, rfl, _, _, rfl, rfl, ⟨by decide, by decide⟩, _, rfl, _, _, rfl, rfl, hm0, ?_⟩
      exact q _ _ (Int.emod_nonneg _ (by omega)) (Int.emod_lt_of_pos _ hm0) SM ⟨a, g, k + 1, m, h3, a0, by omega, by omega, m0, m1⟩
end
abbrev s_law_length : Stmt := topS 29
abbrev N_law_length : List Str := ["seed", "kind"]
theorem sc_law_length : FnScope N_law_length ["seed", "kind"] (defScope s_law_length) := ⟨rfl, rfl, rfl, by decide +kernel, rfl, by decide +kernel, by decide +kernel⟩
section
variable {P : Program} {w : World} {K : PySem.W.Frag} {mg : Str → Option Value} {base : Heap}
def spLength : Sp := fun vs H Q _ => ∃ (d : Addr) (n : Nat) (kind : Int), vs = [.ref d, .int kind] ∧ SeedAt H d n ∧ n < 90000 ∧ 0 ≤ kind ∧ kind < 5 ∧ ∀ (H' : Hp) (r : Int), 1 ≤ r → r ≤ 1000000 → SmX d H H' → SeedAt H' d (n + 3) → Q (.int r) H'
theorem ok_length {f : Addr} {fd : FuncData} (F : Fun K "_law_length" "_law_length" s_law_length f fd) (C_law_draw : Cal P w K mg base 1 "_law_draw" spDraw) : FnOk P w K mg base CX0 2 f fd ["seed", "kind"] spLength := by
  refine F.ok sc_law_length (fun vs H Q E h => ?_) (fun cdv A outer s H vs Q E hr h => ?_)
  · obtain ⟨d, n, kind, rfl, _⟩ := h
    rfl
  · obtain ⟨d, n, kind, rfl, SD, hn, k0, k1, q⟩ := h
    refine ⟨_, (pss_one (ps_ret (pe_ix ix_list (pe_lst (pa_cons pe_int (pa_cons (pe_op op_add pe_int (pe_c C_law_draw hr (by decide) rfl (pa_cons (pv 0) (pa_cons pe_int pa_nil)))) (pa_cons (pe_op op_add pe_int (pe_c C_law_draw hr (by decide) rfl (pa_cons (pv 0) (pa_cons pe_int pa_nil)))) (pa_cons (pe_op op_add pe_int (pe_c C_law_draw hr (by decide) rfl (pa_cons (pv 0) (pa_cons (pe_op op_pow pe_int pe_int) pa_nil)))) (pa_cons pe_int pa_nil)))))) (pv 1) (fun _ _ => rfl)))), ?_⟩
    have e6 : (10 : Int) ^ (6 : Int).toNat = 1000000 := by decide
    refine ⟨_, rfl, d, n, 3, rfl, SD, by omega, by decide, by decide, fun H1 r1 a0 a1 S1 D1 => ⟨_, _, rfl, rfl, ?_⟩⟩
    refine ⟨_, rfl, d, _, 12, rfl, D1, by omega, by decide, by decide, fun H2 r2 b0 b1 S2 D2 => ⟨_, _, rfl, rfl, ?_⟩⟩
    refine ⟨_, rfl, _, _, rfl, rfl, ⟨by decide, by decide, by decide⟩, d, _, _, rfl, D2, by omega, by decide, by decide, fun H3 r3 c0 c1 S3 D3 => ⟨_, _, rfl, rfl, ?_⟩⟩
    refine ⟨(by show 5 ≤ sizeLine; decide), fun p np => ?_⟩
    obtain ⟨v, hv, mv⟩ := atI_in (xs := [V.int 1, .int (1 + r1), .int (1 + r2), .int (1 + r3), .int 2]) k0 (by simpa using k1)
    have hs : ∃ m : Int, v = .int m ∧ 1 ≤ m ∧ m ≤ 1000000 := by
      rw [e6] at c1
      simp only [List.mem_cons, List.not_mem_nil, or_false] at mv
      rcases mv with e | e | e | e | e
      · exact ⟨1, e, by omega, by omega⟩
      · exact ⟨_, e, by omega, by omega⟩
      · exact ⟨_, e, by omega, by omega⟩
      · exact ⟨_, e, by omega, by omega⟩
      · exact ⟨2, e, by omega, by omega⟩
    obtain ⟨m, rfl, m0, m1⟩ := hs
    refine ⟨_, rfl, p, _, kind, _, rfl, rfl, SqL.of upd_same, hv, ?_⟩
    exact q _ m m0 m1 (((S1.trans S2).trans S3).new np) (D3.new np)
end
end Far

namespace Far
open PySem PySem.Spec PyProof.Rows L2
/-! ### t[::-1], t a text -/
def revS (z : Str) : Str := ⟨z.cps.toList.reverse.toArray⟩
def tRevS (te : TE) : TE := fun σ H Q => te σ H fun x H1 => ∃ z, x = .str z ∧ z.length ≤ sizeLine ∧ Q (.str (revS z)) H1
theorem fm_congrS {α β : Type} {f g : α → Option β} : ∀ {l : List α}, (∀ x ∈ l, f x = g x) → l.filterMap f = l.filterMap g
  | [], _ => rfl
  | x :: r, h => by
    rw [List.filterMap_cons, List.filterMap_cons, h x (List.mem_cons_self ..), fm_congrS fun y hy => h y (List.mem_cons_of_mem _ hy)]
theorem back_allS {α : Type} : ∀ (l : List α), (List.range l.length).filterMap (fun m => l[l.length - 1 - m]?) = l.reverse := by
  intro l
  have h := PySem.W.krv_range l.length
  have e : (List.range l.length).filterMap (fun m => l[l.length - 1 - m]?) = ((List.range l.length).map fun k => l.length - 1 - k).filterMap (fun j => l[j]?) := by
    rw [List.filterMap_map]
    rfl
  rw [e, h, List.filterMap_reverse]
  congr 1
  have := PySem.W.krv_all l.toArray
  simpa using this
theorem revS_pick (z : Str) : (⟨((Builtin.Str.strSliceIndices none none (-1) z.length).filterMap (z.cps[·]?)).toArray⟩ : Str) = revS z := by
  unfold revS
  rw [picked_rev, List.filterMap_map, ← back_allS z.cps.toList]
  congr 2
  show _ = (List.range z.cps.toList.length).filterMap _
  rw [Array.length_toList]
  refine fm_congrS fun m hm => ?_
  rw [Array.getElem?_toList]
  rfl
theorem pe_revS {X : Cx} {e : Expr} {te : TE} {k : Nat} {p1 p2 p3 pos : Pos} (he : PE X e te) : PE X (.Subscript e (.Slice none none (some (.UnaryOp .USub (.Constant (.int 1) k p1) p2)) p3) pos) (tRevS te) := by
  refine ⟨fun pins s σ H Q I h => ?_⟩
  refine Subscript_ (thn (he.run pins s σ H _ I h) fun v s1 ⟨x, H1, I1, r1, q1⟩ => ?_)
  obtain ⟨z, ex, hz, q⟩ := q1
  subst ex
  obtain ⟨t, rfl⟩ := r1
  have hst : PO X (some (.UnaryOp .USub (.Constant (.int 1) k p1) p2)) (tPart (tUn (rU fun i => .int (-i)) (tC (.int 1)))) := po_some (pe_un un_neg pe_int)
  refine wpAny_Slice (thn (po_none.run pins s1 σ H1 (fun o H2 => o = none ∧ H2 = H1) I1 ⟨rfl, rfl⟩) fun vl s2 ⟨l, H2, I2, pl, el, e2⟩ => ?_)
  subst el e2
  refine thn (po_none.run pins s2 σ H2 (fun o H3 => o = none ∧ H3 = H2) I2 ⟨rfl, rfl⟩) fun vu s3 ⟨u, H3, I3, pu, eu, e3⟩ => ?_
  subst eu e3
  refine thn (hst.run pins s3 σ H3 (fun o H4 => o = some (-1) ∧ H4 = H3) I3 ⟨1, rfl, -1, rfl, rfl, rfl⟩) fun vs s4 ⟨o, H4, I4, ps, eo, e4⟩ => ?_
  subst eo e4
  have I5 : Inv X pins σ H4 { s4 with heap := s4.heap.push { cls := .type "slice", data := .fields #[vl, vu, vs] } } := I4.kept (t' := s4.toks) fun b ob q => Heap.get?_push_of_some _ q
  obtain ⟨l, rfl, hl⟩ := IsPart.raw pl
  obtain ⟨u, rfl, hu⟩ := IsPart.raw pu
  obtain ⟨y, rfl, hy⟩ := IsPart.raw ps
  show wpAny (model X.prog X.w) X.A (subscriptTail e (.Slice none none (some (.UnaryOp .USub (.Constant (.int 1) k p1) p2)) p3) (.str z t) (.ref s4.heap.objs.size)) (EP X pins σ Q) X.xe _
  refine tail_any (ops := [.str z t, .ref s4.heap.objs.size]) (typeIs_str _ _ _) (F.slot_str_getitem.lookup) ?_ (by with_unfolding_all rfl)
  have hl' : l = none := by cases l with
    | none => rfl
    | some _ => cases hl
  have hu' : u = none := by cases u with
    | none => rfl
    | some _ => cases hu
  obtain ⟨⟨y1, y2⟩, rfl⟩ : ∃ p, y = some p := by cases y with
    | none => cases hy
    | some p => exact ⟨p, rfl⟩
  have hy' : y1 = -1 := by
    have := Option.some.inj hy
    first | exact this | exact this.symm
  subst hl' hu' hy'
  refine wpAny_getItem_str_slice (l := none) (u := none) (st := some (-1, y2)) ⟨_, Heap.get?_push_size _ rfl, rfl, rfl⟩ rfl ?_
  show Made.post (if ((-1 : Int) == 1 && (Builtin.Str.strSliceIndices none none (-1) z.length).length == z.length) = true then Made.val (.str z t)
    else Made.str ⟨((Builtin.Str.strSliceIndices none none (-1) z.length).filterMap (z.cps[·]?)).toArray⟩) (EP X pins σ Q) _
  rw [if_neg (by simp), revS_pick]
  refine ⟨?_, .str _, H4, I5.tok _, ⟨_, rfl⟩, q⟩
  show z.cps.toList.reverse.toArray.size ≤ sizeLine
  rw [List.size_toArray, List.length_reverse, Array.length_toList]
  exact hz
end Far

namespace Far
open PySem PySem.Spec PyProof.Rows L2
open C8 (pss_cut tCut)
open SX (S)
/-! ### lists without an item twice -/
theorem nodup_sub_len {α : Type} [DecidableEq α] : ∀ (l m : List α), l.Nodup → (∀ x ∈ l, x ∈ m) → l.length ≤ m.length
  | [], _, _, _ => Nat.zero_le _
  | a :: r, m, h, hs => by
    obtain ⟨h1, h2⟩ := List.nodup_cons.mp h
    have ha : a ∈ m := hs a (List.mem_cons.mpr (.inl rfl))
    have ih := nodup_sub_len r (m.erase a) h2 fun x hx => by
      have ne : x ≠ a := fun e => h1 (e ▸ hx)
      exact (List.mem_erase_of_ne ne).mpr (hs x (List.mem_cons.mpr (.inr hx)))
    have hl := List.length_erase_of_mem ha
    have hp : 0 < m.length := List.length_pos_of_mem ha
    rw [List.length_cons]
    omega
theorem nd_snoc' {α : Type} {l : List α} {x : α} (h : l.Nodup) (hx : x ∉ l) : (l ++ [x]).Nodup := by
  rw [List.nodup_append]
  exact ⟨h, by simp, fun a ha b hb e => hx (by rw [← List.mem_singleton.mp hb, ← e]; exact ha)⟩

/-! ### texts as data -/
theorem strOk_S {l : List Nat} (h : NameOk l) : PyData.strOk (S l) = true := by
  show (l.toArray.all (· < 0x110000)) = true
  rw [← Array.all_toList, List.all_eq_true]
  intro c hc
  have := h.2.2 c hc
  exact decide_eq_true (by omega)
theorem inV_strs (l : List Nat) (ls : List (List Nat)) : inV (.str (S l)) ((ls.map S).map V.str) = decide (l ∈ ls) := by
  induction ls with
  | nil => rfl
  | cons a r ih =>
    show (S a == S l || inV (.str (S l)) ((r.map S).map V.str)) = _
    rw [ih, SX.S_beq_eq]
    by_cases e : a = l
    · subst e
      simp
    · have : l ≠ a := fun z => e z.symm
      simp [e, this]
theorem flat_strs (ls : List (List Nat)) : ((ls.map S).map V.str).all flatV = true := by
  induction ls with
  | nil => rfl
  | cons a r ih => exact ih
theorem strs_at {ls : List (List Nat)} {v : V} (h : v ∈ (ls.map S).map V.str) : ∃ l ∈ ls, v = .str (S l) := by
  obtain ⟨z, hz, rfl⟩ := List.mem_map.mp h
  obtain ⟨l, hl, rfl⟩ := List.mem_map.mp hz
  exact ⟨l, hl, rfl⟩
theorem dp_strs (K : PySem.W.Frag) (H : Hp) : ∀ ls : List (List Nat), DpAll K H ((ls.map S).map V.str) (ls.map fun l => PyData.str (S l))
  | [] => .nil
  | l :: r => .cons (.str _) (dp_strs K H r)
theorem lay_strs : ∀ {ls : List (List Nat)}, (∀ l ∈ ls, NameOk l) → PyData.canLayAll0 (ls.map fun l => PyData.str (S l)) = true
  | [], _ => rfl
  | l :: r, h => by
    show (PyData.strOk (S l) && PyData.canLayAll0 (r.map fun l => PyData.str (S l))) = true
    rw [strOk_S (h l (List.mem_cons.mpr (.inl rfl))), lay_strs fun x hx => h x (List.mem_cons.mpr (.inr hx))]
    rfl
theorem dep_strs : ∀ ls : List (List Nat), PyData.depthAll (ls.map fun l => PyData.str (S l)) = 0
  | [] => rfl
  | l :: r => by
    show max 0 (PyData.depthAll (r.map fun l => PyData.str (S l))) = 0
    rw [dep_strs r]
    rfl
theorem shaped_strs {ls : List (List Nat)} (h : ∀ l ∈ ls, NameOk l) : SeqAt.shaped (.list (ls.map fun l => PyData.str (S l))) = true := by
  show (PyData.canLayAll0 (ls.map fun l => PyData.str (S l)) && decide (PyData.depthAll (ls.map fun l => PyData.str (S l)) + 1 ≤ 64)) = true
  rw [lay_strs h, dep_strs]
  rfl

/-! ### names made otherwise -/
abbrev abc : Str := "abcdefghijklmnopqrstuvwxyz"
theorem abc_at : ∀ k : _root_.Fin 26, atI abc.cps.toList ((k.val : Nat) : Int) = some (97 + k.val) := by decide +kernel
theorem abc_ok : ∀ c ∈ abc.cps.toList, 97 ≤ c ∧ c ≤ 122 := by decide +kernel
theorem abc_len : abc.cps.toList.length = 26 := by decide +kernel
def cand (j : Nat) : List Nat := [97 + j / 26] ++ [97 + j % 26]
theorem cand_inj {i j : Nat} (h : cand i = cand j) : i = j := by
  unfold cand at h
  simp at h
  omega
theorem cand_ok {j : Nat} (hj : j < 600) : NameOk (cand j) := by
  refine ⟨by simp [cand], by simp [cand], fun c hc => ?_⟩
  unfold cand at hc
  simp at hc
  omega
/-- of the names tried so far all but the last are found already -/
structure Tried (ls : List (List Nat)) (t : Nat) (l : List Nat) : Prop where
  ok : NameOk l
  last : t ≠ 0 → l = cand (t - 1)
  old : ∀ j, j + 1 < t → cand j ∈ ls
theorem Tried.lt {ls : List (List Nat)} {t : Nat} {l : List Nat} (h : Tried ls t l) (hl : l ∈ ls) : t ≤ ls.length := by
  have sub : ∀ x ∈ (List.range t).map cand, x ∈ ls := fun x hx => by
    obtain ⟨j, hj, rfl⟩ := List.mem_map.mp hx
    have hj := List.mem_range.mp hj
    by_cases e : j + 1 < t
    · exact h.old j e
    · have e2 : j = t - 1 := by omega
      rw [e2, ← h.last (by omega)]
      exact hl
  have nd : ((List.range t).map cand).Nodup := by
    rw [List.Nodup, List.pairwise_map]
    exact (List.nodup_range (n := t)).imp fun ne e => ne (cand_inj e)
  have := nodup_sub_len _ ls nd sub
  rw [List.length_map, List.length_range] at this
  exact this
theorem Tried.next {ls : List (List Nat)} {t : Nat} {l : List Nat} (h : Tried ls t l) (hl : l ∈ ls) (h30 : ls.length < 100) : Tried ls (t + 1) (cand t) := by
  have hlt := h.lt hl
  refine ⟨cand_ok (by omega), fun _ => rfl, fun j hj => ?_⟩
  by_cases e : j + 1 < t
  · exact h.old j e
  · have e2 : j = t - 1 := by omega
    rw [e2, ← h.last (by omega)]
    exact hl
theorem revS_S (l : List Nat) : revS (S l) = S l.reverse := by
  show (⟨(l.toArray.toList.reverse).toArray⟩ : Str) = _
  rw [List.toList_toArray]
def NamesAt (H : Hp) (p : Addr) (ls : List (List Nat)) : Prop := H p = some (.lst ((ls.map S).map V.str))
end Far

namespace Far
open PySem PySem.Spec PyProof.Rows L2
open C8 (pss_cut tCut)
open SX (S)
abbrev s_law_name : Stmt := topS 28
abbrev N_law_name : List Str := ["seed", "names", "letters", "many", "name", "near", "at", "otherwise", "count", "k"]
theorem sc_law_name : FnScope N_law_name ["seed", "names"] (defScope s_law_name) := ⟨rfl, rfl, rfl, by decide +kernel, rfl, by decide +kernel, by decide +kernel⟩
section
variable {P : Program} {w : World} {K : PySem.W.Frag} {mg : Str → Option Value} {base : Heap}
def spName : Sp := fun vs H Q _ => ∃ (d a : Addr) (n : Nat) (ls : List (List Nat)), vs = [.ref d, .ref a] ∧ SeedAt H d n ∧ n < 80000 ∧ a ≠ d ∧ NamesAt H a ls ∧ ls.length < 100 ∧ (∀ l ∈ ls, NameOk l) ∧ ∀ (H' : Hp) (l : List Nat), NameOk l → l ∉ ls → SmX d H H' → SeedAt H' d (n + 20) → Q (.str (S l)) H'
theorem ok_name {f : Addr} {fd : FuncData} (F : Fun K "_law_name" "_law_name" s_law_name f fd) (T : TxtG mg) (C_law_draw : Cal P w K mg base 1 "_law_draw" spDraw) : FnOk P w K mg base CX0 2 f fd ["seed", "names"] spName := by
  refine F.ok sc_law_name (fun vs H Q E h => ?_) (fun cdv A outer s H vs Q E hr h => ?_)
  · obtain ⟨d, a, n, ls, rfl, _⟩ := h
    rfl
  · obtain ⟨d, a, n, ls, rfl, hD, hn, nad, hN, hl, ok, q⟩ := h
    refine ⟨_, (pss_cons (ps_set (i := 2) sc_law_name.nd rfl (.inr rfl) pe_str)
      (pss_cons (ps_set (i := 3) sc_law_name.nd rfl (.inl rfl) (pe_op op_add pe_int (pe_c C_law_draw hr (by decide) rfl (pa_cons (pv 0) (pa_cons (pe_ix ix_list (pe_lst (pa_cons pe_int (pa_cons pe_int (pa_cons pe_int pa_nil)))) (pe_c C_law_draw hr (by decide) rfl (pa_cons (pv 0) (pa_cons pe_int pa_nil))) (fun _ _ => rfl)) pa_nil)))))
      (pss_cons (ps_set (i := 4) sc_law_name.nd rfl (.inl rfl) (pe_join pe_str (pe_lc (own := [("k", 9)]) (g := gName 9) (tt := tYes) rfl sc_law_name.nd (pi_range1 (by rfl) T.range (pa_cons (pv 3) pa_nil)) (blkOk_by (N := N_law_name) (sc := defScope s_law_name) (by decide +kernel)) (fun _ _ _ _ _ => pg_name (i := 9) sc_law_name.nd rfl (Or.inl rfl)) (fun _ _ _ _ _ => pts_nil) (fun _ _ _ _ _ => (pe_ix ix_str (pv 2) (pe_c C_law_draw hr (by decide) rfl (pa_cons (pv 0) (pa_cons pe_int pa_nil))) (fun _ _ => rfl))))))
      (pss_cut (ps_if (PW.pt (pw_and (pt_cmpR (op_neD (hd_of hr (by decide))) (pv 1) (pe_lst pa_nil) (nomark _)) (pw_and1 (pt_cmpR op_eq (pe_c C_law_draw hr (by decide) rfl (pa_cons (pv 0) (pa_cons pe_int pa_nil))) pe_int (nomark _)))))
        (pss_cons (ps_set (i := 5) sc_law_name.nd rfl (.inl rfl) (pe_ix ix_list (pv 1) (pe_c C_law_draw hr (by decide) rfl (pa_cons (pv 0) (pa_cons (pe_callB call_len_seq (by rfl) T.len bt_len (pa_cons (pv 1) pa_nil)) pa_nil))) (fun _ _ => rfl)))
        (pss_cons (ps_set (i := 6) sc_law_name.nd rfl (.inl rfl) (pe_c C_law_draw hr (by decide) rfl (pa_cons (pv 0) (pa_cons (pe_callB call_len (by rfl) T.len bt_len (pa_cons (pv 5) pa_nil)) pa_nil))))
        (pss_cons (ps_set (i := 7) sc_law_name.nd rfl (.inl rfl) (pe_op op_add_str (pe_op op_add_str (pe_slice C8.sl_txt (pv 5) po_none (po_some (pv 6))) (pe_ix ix_str (pv 2) (pe_c C_law_draw hr (by decide) rfl (pa_cons (pv 0) (pa_cons pe_int pa_nil))) (fun _ _ => rfl))) (pe_slice C8.sl_txt (pv 5) (po_some (pe_op op_add (pv 6) pe_int)) po_none)))
        (pss_one (ps_set (i := 4) sc_law_name.nd rfl (.inl rfl) (pe_ix ix_list (pe_lst (pa_cons (pv 7) (pa_cons (pe_revS (pv 5)) (pa_cons (pe_slice C8.sl_txt (pe_op op_add_str (pv 5) (pv 4)) po_none (po_some pe_int)) pa_nil)))) (pe_c C_law_draw hr (by decide) rfl (pa_cons (pv 0) (pa_cons pe_int pa_nil))) (fun _ _ => rfl)))))))
        pss_nil)
      (pss_cons (ps_set (i := 8) sc_law_name.nd rfl (.inl rfl) pe_int)
      (pss_cut (ps_while PassesOwn.never (pt_cmpR op_in_seq (pv 4) (pv 1) rfl)
        (pss_cons (ps_set (i := 4) sc_law_name.nd rfl (.inl rfl) (pe_op op_add_str (pe_ix ix_str (pv 2) (pe_op op_fdiv (pv 8) pe_int) (fun _ _ => rfl)) (pe_ix ix_str (pv 2) (pe_op op_mod (pv 8) pe_int) (fun _ _ => rfl))))
        (pss_one (ps_set (i := 8) sc_law_name.nd rfl (.inl rfl) (pe_op op_add (pv 8) pe_int)))))
      (pss_one (ps_ret (pv 4))))))))), ?_⟩
    -- many
    refine ⟨_, rfl, (by show 3 ≤ sizeLine; decide), fun p np => ?_⟩
    have npd : p ≠ d := hD.nd np
    refine ⟨_, rfl, d, n, 3, rfl, hD.new np, by omega, by decide, by decide, fun H1 r r0 r1 S1 D1 => ?_⟩
    have hp : H1 p = some (.lst [.int 1, .int 2, .int 8]) := S1 p _ npd upd_same
    obtain ⟨v, hv, mv⟩ := atI_in (xs := [V.int 1, .int 2, .int 8]) r0 (by simpa using r1)
    have hs : ∃ sz : Int, v = .int sz ∧ 1 ≤ sz ∧ sz ≤ 8 := by
      simp only [List.mem_cons, List.not_mem_nil, or_false] at mv
      rcases mv with e | e | e <;> exact ⟨_, e, by omega, by omega⟩
    obtain ⟨sz, rfl, s1, s8⟩ := hs
    refine ⟨p, _, r, _, rfl, rfl, SqL.of hp, hv, ?_⟩
    have S01 : SmX d H H1 := fun b o nb hb => S1 b o nb (by rw [upd_ne (ne_of_none hb np)]; exact hb)
    refine ⟨d, n + 1, sz, rfl, D1, by omega, by omega, by omega, fun H2 r2 a0 a1 S2 D2 => ⟨_, _, rfl, rfl, ?_⟩⟩
    have S02 := S01.trans S2
    -- name
    refine ⟨⟨_, rfl⟩, _, rfl, 1 + r2, rfl, by omega, by omega, fun D nD => ?_⟩
    have nDd : D ≠ d := D2.nd nD
    refine lc_range (lo := 0) (n := (1 + r2).toNat) (fun i H' => ∃ cs : List Nat, cs.length = i ∧ (∀ c ∈ cs, 97 ≤ c ∧ c ≤ 122) ∧ H' D = some (.lst ((cs.map fun c => S [c]).map V.str)) ∧ SmX d H H' ∧ SeedAt H' d (n + 2 + i)) ⟨[], rfl, by simp, upd_same, S02.new nD, D2.new nD⟩ (fun i H' hi hP => ?_) (fun H' hP => ?_)
    · obtain ⟨cs, hlc, hc, hD', SM, DD⟩ := hP
      refine ⟨rfl, _, rfl, _, rfl, d, _, 26, rfl, DD, by omega, by decide, by decide, fun H4 r4 r40 r41 S4 D4 => ?_⟩
      obtain ⟨v, hv, mv⟩ := atI_in (xs := abc.cps.toList) r40 (by rw [abc_len]; exact r41)
      refine ⟨abc, r4, v, rfl, rfl, by decide, hv, ?_⟩
      refine ⟨_, S4 D _ nDd hD', by rw [List.length_map, List.length_map]; exact sz_lt (by omega), cs ++ [v], by simp [hlc], fun c hc' => ?_, ?_, (SM.trans S4).put ?_, ?_⟩
      · rcases List.mem_append.mp hc' with z | z
        · exact hc c z
        · rw [List.mem_singleton.mp z]
          exact abc_ok v mv
      · rw [upd_same, List.map_append, List.map_append]
        rfl
      · exact SmX.free S02 nD nDd
      · exact D4.put nDd
    · obtain ⟨cs, hlc, hc, hD', SM, DD⟩ := hP
      refine ⟨_, D, cs.map (fun c => S [c]), rfl, rfl, .inl (SqL.of hD'), ?_, ?_⟩
      · rw [one_sum']
        have : ((("" : Str)).length) = 0 := rfl
        rw [this, List.length_map]
        omega
      · have e : Txt.join ("" : Str) (cs.map fun c => S [c]) = S cs := by
          have := SX.join_S [] (cs.map fun c => [c])
          rw [List.map_map] at this
          rw [join_none, flat_one] at this
          exact this
        rw [e]
        have cok : NameOk cs := ⟨by omega, by omega, hc⟩
        have DD := DD.mono (m := n + 10) (by omega)
        clear hlc hD'
        -- the if
        refine ⟨fun σ1 H1 => ∃ (l : List Nat) (x5 x6 x7 : Option V), σ1 = [some (.ref d), some (.ref a), some (.str abc), some (.int (1 + r2)), some (.str (S l)), x5, x6, x7, none, none] ∧ NameOk l ∧ SmX d H H1 ∧ SeedAt H1 d (n + 20), ?_, fun σ1 H1 hM => ?_⟩
        · have hN1 : NamesAt H' a ls := SM a _ nad hN
          refine ⟨_, rfl, Nat.zero_le _, fun p2 np2 => ?_⟩
          have hN2 : NamesAt (upd H' p2 (.lst [])) a ls := by
            unfold NamesAt
            rw [upd_ne (ne_of_none hN1 np2)]
            exact hN1
          have D2 := DD.new (o := .lst []) np2
          have SM2 : SmX d H (upd H' p2 (.lst [])) := SM.new np2
          refine ⟨_, _, .lst (SqL.of hN2) (dp_strs _ _ ls), .lst (SqL.of upd_same) .nil, shaped_strs ok, rfl, _, rfl, ?_⟩
          refine ite2 (fun e1 => ?_) (fun e1 => ?_)
          · have pos : 0 < ls.length := by
              cases ls with
              | nil => exact absurd e1 (by decide)
              | cons a r => exact Nat.succ_pos _
            refine ⟨_, rfl, d, _, 3, rfl, D2, by omega, by decide, by decide, fun H3 r r0 r1 S3 D3 => ?_⟩
            have hN3 : NamesAt H3 a ls := S3 a _ nad hN2
            have SM3 : SmX d H H3 := SM2.trans S3
            refine ⟨rfl, _, rfl, ite2 (fun e2 => ?_) (fun e2 => ?_)⟩
            · -- near
              refine ⟨_, rfl, _, rfl, _, rfl, a, _, rfl, .inl (SqL.of hN3), d, _, _, rfl, D3, by omega, ?_, ?_, fun H4 r4 r40 r41 S4 D4 => ?_⟩
              · rw [List.length_map, List.length_map]
                omega
              · rw [List.length_map, List.length_map]
                omega
              have hN4 : NamesAt H4 a ls := S4 a _ nad hN3
              obtain ⟨v, hv, mv⟩ := atI_in r40 r41
              obtain ⟨l2, hl2, rfl⟩ := strs_at mv
              have ok2 := ok l2 hl2
              have h8 := ok2.2.1
              have h1 := ok2.1
              have c8 := cok.2.1
              refine ⟨a, _, r4, _, rfl, rfl, SqL.of hN4, hv, ?_⟩
              -- at
              refine ⟨_, rfl, _, rfl, .str (S l2), l2.length, rfl, ⟨by rw [SX.S_len]; exact sz_le (by omega), (SX.S_len _).symm⟩, d, _, _, rfl, D4, by omega, by omega, by omega, fun H5 r5 r50 r51 S5 D5 => ?_⟩
              -- otherwise
              refine ⟨_, rfl, _, rfl, r5, rfl, S l2, rfl, by rw [SX.S_len]; exact sz_le (by omega), ?_⟩
              refine ⟨_, rfl, _, rfl, d, _, 26, rfl, D5, by omega, by decide, by decide, fun H6 r6 r60 r61 S6 D6 => ?_⟩
              obtain ⟨sg, hsg, msg⟩ := atI_in (xs := abc.cps.toList) r60 (by rw [abc_len]; exact r61)
              have oks := abc_ok sg msg
              refine ⟨abc, r6, sg, rfl, rfl, by decide, hsg, ?_⟩
              have SM6 : SmX d H H6 := ((SM3.trans S4).trans S5).trans S6
              refine ⟨S (l2.take r5.toNat), S [sg], congrArg V.str (SX.slice_to r50), rfl, by rw [SX.S_len, SX.S_len, List.length_take, List.length_singleton]; exact sz_le (by omega), ?_⟩
              refine ⟨_, rfl, _, rfl, r5, 1, rfl, rfl, r5 + 1, rfl, S l2, rfl, by rw [SX.S_len]; exact sz_le (by omega), S (l2.take r5.toNat ++ [sg]), S (l2.drop (r5 + 1).toNat), congrArg V.str (SX.S_cat _ _), congrArg V.str (SX.slice_from (by omega)), by rw [SX.S_len, SX.S_len, List.length_append, List.length_take, List.length_drop, List.length_singleton]; exact sz_le (by omega), ?_⟩
              -- the three
              refine ⟨_, rfl, _, rfl, S l2, rfl, by rw [SX.S_len]; exact sz_le (by omega), ?_⟩
              refine ⟨_, rfl, _, rfl, S l2, S cs, rfl, rfl, by rw [SX.S_len, SX.S_len]; exact sz_le (by omega), 8, rfl, S (l2 ++ cs), congrArg V.str (SX.S_cat _ _), by rw [SX.S_len, List.length_append]; exact sz_le (by omega), by show 3 ≤ sizeLine; decide, fun p7 np7 => ?_⟩
              have np7d := D6.nd np7
              have D6' := D6.new (o := .lst [V.str (S (l2.take r5.toNat ++ [sg]) ++ S (l2.drop (r5 + 1).toNat)), .str (revS (S l2)), .str (Txt.slice (S (l2 ++ cs)) none (some 8))]) np7
              refine ⟨_, rfl, d, _, 3, rfl, D6', by omega, by decide, by decide, fun H7 r7 r70 r71 S7 D7 => ?_⟩
              have h7 := S7 p7 _ np7d upd_same
              have SM7 : SmX d H H7 := (SM6.new np7).trans S7
              obtain ⟨v, hv, mv⟩ := atI_in (xs := [V.str (S (l2.take r5.toNat ++ [sg]) ++ S (l2.drop (r5 + 1).toNat)), .str (revS (S l2)), .str (Txt.slice (S (l2 ++ cs)) none (some 8))]) r70 (by simpa using r71)
              have hs : ∃ l3 : List Nat, v = .str (S l3) ∧ NameOk l3 := by
                simp only [List.mem_cons, List.not_mem_nil, or_false] at mv
                rcases mv with e | e | e
                · refine ⟨l2.take r5.toNat ++ [sg] ++ l2.drop (r5 + 1).toNat, by rw [e, SX.S_cat], ?_, ?_, fun x hx => ?_⟩
                  · simp
                    omega
                  · simp
                    omega
                  · rcases List.mem_append.mp hx with z | z
                    · rcases List.mem_append.mp z with z | z
                      · exact ok2.2.2 x (List.mem_of_mem_take z)
                      · rw [List.mem_singleton.mp z]
                        exact oks
                    · exact ok2.2.2 x (List.mem_of_mem_drop z)
                · refine ⟨l2.reverse, by rw [e, revS_S], ?_, ?_, fun x hx => ok2.2.2 x (List.mem_reverse.mp hx)⟩
                  · rw [List.length_reverse]
                    omega
                  · rw [List.length_reverse]
                    omega
                · refine ⟨(l2 ++ cs).take 8, by rw [e, SX.slice_to (by decide)]; rfl, ?_, ?_, fun x hx => ?_⟩
                  · rw [List.length_take, List.length_append]
                    omega
                  · rw [List.length_take]
                    omega
                  · rcases List.mem_append.mp (List.mem_of_mem_take hx) with z | z
                    · exact ok2.2.2 x z
                    · exact hc x z
              obtain ⟨l3, rfl, ok3⟩ := hs
              refine ⟨p7, _, r7, _, rfl, rfl, SqL.of h7, hv, ?_⟩
              exact ⟨l3, _, _, _, rfl, ok3, SM7, D7.mono (by omega)⟩
            · exact ⟨cs, _, _, _, rfl, cok, SM3, D3.mono (by omega)⟩
          · exact ⟨cs, _, _, _, rfl, cok, SM2, D2.mono (by omega)⟩
        · -- the loop
          obtain ⟨l, x5, x6, x7, rfl, lok, SM1, DD1⟩ := hM
          have hN1 : NamesAt H1 a ls := SM1 a _ nad hN
          refine ⟨fun σ2 H2 => ∃ (l : List Nat) (x8 : Option V), σ2 = [some (.ref d), some (.ref a), some (.str abc), some (.int (1 + r2)), some (.str (S l)), x5, x6, x7, x8, none] ∧ NameOk l ∧ l ∉ ls ∧ H2 = H1, ?_, fun σ2 H2 hM => ?_⟩
          · refine ⟨fun m σ2 H2 => ∃ (l : List Nat) (t : Nat), σ2 = [some (.ref d), some (.ref a), some (.str abc), some (.int (1 + r2)), some (.str (S l)), x5, x6, x7, some (.int t), none] ∧ H2 = H1 ∧ Tried ls t l ∧ t + m = 200, ⟨200, l, 0, rfl, rfl, ⟨lok, fun z => absurd rfl z, fun j hj => absurd hj (by omega)⟩, rfl⟩, ?_⟩
            rintro m' σ2 H4 ⟨l, t, rfl, rfl, tr, em⟩
            refine ⟨_, rfl, _, rfl, a, _, rfl, .inl (SqL.of hN1), rfl, flat_strs ls, _, rfl, ?_⟩
            rw [inV_strs]
            refine ite2 (fun e2 => ?_) (fun e2 => ?_)
            · have hin : l ∈ ls := of_decide_eq_true e2
              have tl := tr.lt hin
              have nx := tr.next hin (by omega)
              refine ⟨fun σ' H'' => ∃ (l : List Nat) (t' : Nat), σ' = [some (.ref d), some (.ref a), some (.str abc), some (.int (1 + r2)), some (.str (S l)), x5, x6, x7, some (.int t'), none] ∧ H'' = H4 ∧ Tried ls t' l ∧ t' = t + 1, ?_, ?_⟩
              · rintro σ' H'' ⟨l', t', e1, e2', e3, e4⟩
                exact ⟨m' - 1, by omega, l', t', e1, e2', e3, by omega⟩
              have et : (t : Int) / 26 = (((t / 26 : Nat)) : Int) := by omega
              have em' : (t : Int) % 26 = (((t % 26 : Nat)) : Int) := by omega
              have a1 : atI abc.cps.toList ((t : Int) / 26) = some (97 + t / 26) := by
                rw [et]
                exact abc_at ⟨t / 26, by omega⟩
              have a2 : atI abc.cps.toList ((t : Int) % 26) = some (97 + t % 26) := by
                rw [em']
                exact abc_at ⟨t % 26, by omega⟩
              refine ⟨_, rfl, _, rfl, _, _, rfl, rfl, ⟨by decide, by decide⟩, abc, (t : Int) / 26, _, rfl, rfl, by decide, a1, ?_⟩
              refine ⟨_, rfl, _, rfl, _, _, rfl, rfl, (by show (0 : Int) < _; decide), abc, (t : Int) % 26, _, rfl, rfl, by decide, a2, ?_⟩
              refine ⟨S [97 + t / 26], S [97 + t % 26], rfl, rfl, by rw [SX.S_len, SX.S_len]; exact sz_le (by simp), ?_⟩
              refine ⟨_, rfl, _, _, rfl, rfl, ?_⟩
              refine ⟨cand t, t + 1, ?_, rfl, nx, rfl⟩
              show [some (V.ref d), some (V.ref a), some (V.str abc), some (V.int (1 + r2)), some (V.str (S [97 + t / 26] ++ S [97 + t % 26])), x5, x6, x7, some (V.int ((t : Int) + 1)), none] = _
              rw [SX.S_cat]
              rfl
            · exact ⟨l, _, rfl, tr.ok, fun z => e2 (decide_eq_true z), rfl⟩
          · obtain ⟨l, x8, rfl, lok, nin, rfl⟩ := hM
            exact ⟨_, rfl, q _ l lok nin SM1 DD1⟩
end
end Far

namespace Far
open PySem PySem.Spec PyProof.Rows L2
/-! ### xs[::e], xs a list, e tells 1 or -1 -/
def tStepL (K : PySem.W.Frag) (te ts : TE) : TE := fun σ H Q => te σ H fun x H1 => tPart ts σ H1 fun o H2 => ∃ a xs i, x = .ref a ∧ o = some i ∧ (i = 1 ∨ i = -1) ∧ SqL K H2 a xs ∧ ∀ p, H2 p = none → Q (.ref p) (upd H2 p (.lst (if i = 1 then xs else xs.reverse)))
theorem range_some {α : Type} : ∀ (l : List α), (List.range l.length).filterMap (fun m => l[m]?) = l
  | [] => rfl
  | a :: r => by
    rw [List.length_cons, List.range_succ_eq_map, List.filterMap_cons]
    show a :: ((List.range r.length).map Nat.succ).filterMap _ = _
    rw [List.filterMap_map]
    congr 1
    exact range_some r
theorem pick_one (items : Array Value) : slicePick items none none (some 1) = items := by
  have h := slicePick_cut items.toList none none
  have e : slicePick items none none (some 1) = slicePick items none none none := by rfl
  rw [e]
  rw [Array.toArray_toList] at h
  rw [h]
  have e1 : HT.sIx items.toList.length items.toList.length none = items.toList.length := rfl
  have e2 : HT.sIx items.toList.length 0 none = 0 := rfl
  rw [e1, e2, List.drop_zero, Nat.sub_zero, List.take_length, Array.toArray_toList]
theorem pe_stepL {X : Cx} {e st : Expr} {te ts : TE} {p3 pos : Pos} (he : PE X e te) (hs : PE X st ts) : PE X (.Subscript e (.Slice none none (some st) p3) pos) (tStepL X.K te ts) := by
  refine ⟨fun pins s σ H Q I h => ?_⟩
  refine Subscript_ (thn (he.run pins s σ H _ I h) fun v s1 ⟨x, H1, I1, r1, q1⟩ => ?_)
  have hst : PO X (some st) (tPart ts) := po_some hs
  refine wpAny_Slice (thn (po_none.run pins s1 σ H1 (fun o H2 => o = none ∧ H2 = H1) I1 ⟨rfl, rfl⟩) fun vl s2 ⟨l, H2, I2, pl, el, e2⟩ => ?_)
  subst el e2
  refine thn (po_none.run pins s2 σ H2 (fun o H3 => o = none ∧ H3 = H2) I2 ⟨rfl, rfl⟩) fun vu s3 ⟨u, H3, I3, pu, eu, e3⟩ => ?_
  subst eu e3
  refine thn (hst.run pins s3 σ H3 _ I3 q1) fun vs s4 ⟨o, H4, I4, ps, q2⟩ => ?_
  obtain ⟨a, xs, i, ex, eo, hi, hx, q⟩ := q2
  subst ex eo
  cases r1
  have I5 : Inv X pins σ H4 { s4 with heap := s4.heap.push { cls := .type "slice", data := .fields #[vl, vu, vs] } } := I4.kept (t' := s4.toks) fun b ob q => Heap.get?_push_of_some _ q
  obtain ⟨its, r, ht, hz⟩ := I5.list hx
  have hlen := r.length
  show wpAny (model X.prog X.w) X.A (subscriptTail e (.Slice none none (some st) p3) (.ref a) (.ref s4.heap.objs.size)) (EP X pins σ Q) X.xe { s4 with heap := s4.heap.push { cls := .type "slice", data := .fields #[vl, vu, vs] } }
  refine tail_any (ops := [.ref a, .ref s4.heap.objs.size]) ht.isList.typeIs (PySem.slot_list_getitem.lookup) ?_ (by with_unfolding_all rfl)
  refine wpAny_getItem_list_slice ht.isList (Heap.IsSliceOf.new _ vl vu vs) pl pu ps (by rcases hi with z | z <;> rw [z] <;> decide) ?_ (by rw [List.size_toArray]; omega)
  have q := q _ (I5.hok.fresh (Nat.le_refl _))
  rcases hi with z | z
  · subst z
    rw [if_pos rfl] at q
    rw [pick_one]
    refine ⟨.ref _, _, I5.laid (t' := s4.toks) (o := .lst xs) (fun b ob q => Heap.get?_push_of_some _ q) (Nat.le_refl _) ?_, rfl, q⟩
    exact ⟨hz, _, 0, r, Heap.get?_push_size _ rfl⟩
  · subst z
    rw [if_neg (by decide)] at q
    rw [PySem.W.krv_pick]
    refine ⟨.ref _, _, I5.laid (t' := s4.toks) (o := .lst xs.reverse) (fun b ob q => Heap.get?_push_of_some _ q) (Nat.le_refl _) ?_, rfl, q⟩
    exact ⟨by rw [List.length_reverse]; exact hz, _, 0, r.reverse, Heap.get?_push_size _ rfl⟩
end Far

namespace Far
open PySem PySem.Spec PyProof.Rows L2
open SX (S)
abbrev Nm := List Nat
abbrev Tie := Nm × Nm × Int
/-- places in an order in which each has one tie to those ahead; the ties in that order -/
inductive Grown : List Nm → List Tie → Prop
  | one (a : Nm) : Grown [a] []
  | leaf {os : List Nm} {es : List Tie} {a b : Nm} {k : Int} {e : Tie} : Grown os es → a ∈ os → b ∉ os → e = (a, b, k) ∨ e = (b, a, k) → 1 ≤ k → k ≤ 1000000 → Grown (os ++ [b]) (es ++ [e])
def IsTree (pl : List Nm) (ts : List Tie) : Prop := ∃ os es, Grown os es ∧ pl.Perm os ∧ ts.Perm es
theorem Grown.nodup {os : List Nm} {es : List Tie} (h : Grown os es) : os.Nodup := by
  induction h with
  | one a => simp
  | leaf _ _ hb _ _ _ ih => exact nd_snoc' ih hb
theorem Grown.len {os : List Nm} {es : List Tie} (h : Grown os es) : os.length = es.length + 1 := by
  induction h with
  | one a => rfl
  | leaf _ _ _ _ _ _ ih => rw [List.length_append, List.length_append, ih]; rfl
theorem Grown.ties {os : List Nm} {es : List Tie} (h : Grown os es) : ∀ e ∈ es, e.1 ∈ os ∧ e.2.1 ∈ os ∧ 1 ≤ e.2.2 ∧ e.2.2 ≤ 1000000 := by
  induction h with
  | one a => simp
  | leaf h1 ha hb he k1 k2 ih =>
    intro e hm
    rcases List.mem_append.mp hm with z | z
    · obtain ⟨a1, a2, a3⟩ := ih e z
      exact ⟨List.mem_append_left _ a1, List.mem_append_left _ a2, a3⟩
    · rw [List.mem_singleton.mp z]
      rcases he with e | e <;> rw [e] <;> simp [ha, k1, k2]
theorem IsTree.nodup {pl : List Nm} {ts : List Tie} (h : IsTree pl ts) : pl.Nodup := by
  obtain ⟨os, es, g, p, _⟩ := h
  exact p.nodup_iff.mpr g.nodup
theorem IsTree.len {pl : List Nm} {ts : List Tie} (h : IsTree pl ts) : pl.length = ts.length + 1 := by
  obtain ⟨os, es, g, p, q⟩ := h
  rw [p.length_eq, q.length_eq]
  exact g.len
theorem IsTree.ties {pl : List Nm} {ts : List Tie} (h : IsTree pl ts) : ∀ e ∈ ts, e.1 ∈ pl ∧ e.2.1 ∈ pl ∧ 1 ≤ e.2.2 ∧ e.2.2 ≤ 1000000 := by
  obtain ⟨os, es, g, p, q⟩ := h
  intro e he
  obtain ⟨a, b, c⟩ := g.ties e (q.mem_iff.mp he)
  exact ⟨p.mem_iff.mpr a, p.mem_iff.mpr b, c⟩

/-! ### as data -/
def tieD (t : Tie) : PyData := .tuple [.str (S t.1), .str (S t.2.1), .int t.2.2]
def strD (l : Nm) : PyData := .str (S l)
def treeD (pl : List Nm) (ts : List Tie) : PyData := .tuple [.tuple (pl.map strD), .tuple (ts.map tieD)]
/-- tuples stand as they stood -/
structure TK (H H' : Hp) : Prop where
  tup : ∀ b xs, H b = some (.tup xs) → H' b = some (.tup xs)
  frz : ∀ b o xs, H b = some (.frz o (.tup xs)) → H' b = some (.frz o (.tup xs))
theorem TK.refl (H : Hp) : TK H H := ⟨fun _ _ h => h, fun _ _ _ h => h⟩
theorem TK.trans {H H1 H2 : Hp} (a : TK H H1) (b : TK H1 H2) : TK H H2 := ⟨fun x o h => b.tup x o (a.tup x o h), fun x o u h => b.frz x o u (a.frz x o u h)⟩
theorem TK.of {H H' : Hp} (a : Same H H') : TK H H' := ⟨fun x _ h => a x _ h, fun x _ _ h => a x _ h⟩
theorem TK.new {H : Hp} {p : Addr} {o : HO} (n : H p = none) : TK H (upd H p o) :=
  ⟨fun b xs h => by rw [upd_ne (ne_of_none h n)]; exact h, fun b u xs h => by rw [upd_ne (ne_of_none h n)]; exact h⟩
theorem TK.mut {H : Hp} {p : Addr} {o : HO} {xs : List V} (n : H p = some (.lst xs)) : TK H (upd H p o) :=
  ⟨fun b ys h => by rw [upd_ne (ne_of h n (by intro z; cases z))]; exact h, fun b u ys h => by rw [upd_ne (ne_of h n (by intro z; cases z))]; exact h⟩
theorem SmX.tk {d : Addr} {H H' : Hp} {xs : List V} (s : SmX d H H') (n : H d = some (.lst xs)) : TK H H' :=
  ⟨fun b ys h => s b _ (ne_of h n (by intro z; cases z)) h, fun b u ys h => s b _ (ne_of h n (by intro z; cases z)) h⟩
theorem DeckAt.lst {H : Hp} {d c : Addr} {n : Nat} (h : DeckAt H d c n) : ∃ xs, H d = some (.lst xs) := by
  obtain ⟨_, _, _, _, _, h1, _⟩ := h
  exact ⟨_, h1⟩
theorem DeckAt.tk {H H' : Hp} {d c : Addr} {n : Nat} (h : DeckAt H d c n) (s : SmX d H H') : TK H H' := by
  obtain ⟨xs, e⟩ := h.lst
  exact s.tk e
mutual
/-- a value that never changes: none, truths, numbers, texts, tuples of such -/
inductive Dt (H : Hp) : V → PyData → Prop
  | non : Dt H .non .none
  | bl (b : Bool) : Dt H (.bl b) (.bool b)
  | int (i : Int) : Dt H (.int i) (.int i)
  | str (x : Str) : Dt H (.str x) (.str x)
  | tup {a : Addr} {xs : List V} {ds : List PyData} : H a = some (.tup xs) → DtAll H xs ds → Dt H (.ref a) (.tuple ds)
  /-- a tuple of texts that is known to have no dict of its own -/
  | tupZ {a : Addr} {pl : List Nm} {ds : List PyData} {o : Obj} : ds = pl.map strD → pl ≠ [] → o.dict = none → H a = some (.frz o (.tup ((pl.map S).map V.str))) → Dt H (.ref a) (.tuple ds)
inductive DtAll (H : Hp) : List V → List PyData → Prop
  | nil : DtAll H [] []
  | cons {v : V} {vs : List V} {d : PyData} {ds : List PyData} : Dt H v d → DtAll H vs ds → DtAll H (v :: vs) (d :: ds)
end
mutual
theorem Dt.keep {H H' : Hp} (t : TK H H') : ∀ {v : V} {d : PyData}, Dt H v d → Dt H' v d
  | _, _, .non => .non
  | _, _, .bl b => .bl b
  | _, _, .int i => .int i
  | _, _, .str x => .str x
  | _, _, .tup a b => .tup (t.tup _ _ a) (DtAll.keep t b)
  | _, _, .tupZ e n d a => .tupZ e n d (t.frz _ _ _ a)
theorem DtAll.keep {H H' : Hp} (t : TK H H') : ∀ {vs : List V} {ds : List PyData}, DtAll H vs ds → DtAll H' vs ds
  | _, _, .nil => .nil
  | _, _, .cons a b => .cons (Dt.keep t a) (DtAll.keep t b)
end
theorem dpa_strs {K : PySem.W.Frag} (H : Hp) : ∀ ls : List Nm, DpAll K H ((ls.map S).map V.str) (ls.map strD)
  | [] => .nil
  | _ :: r => .cons (.str _) (dpa_strs H r)
mutual
theorem Dt.dp {K : PySem.W.Frag} {H : Hp} : ∀ {v : V} {d : PyData}, Dt H v d → Dp K H v d
  | _, _, .non => .non
  | _, _, .bl b => .bl b
  | _, _, .int i => .int i
  | _, _, .str x => .str x
  | _, _, .tup a b => .tup (.inl (.inl a)) (DtAll.dp b)
  | _, _, .tupZ (pl := pl) (o := o) e _ _ a => e ▸ .tup (.inl (.inr ⟨o, a⟩)) (dpa_strs H pl)
theorem DtAll.dp {K : PySem.W.Frag} {H : Hp} : ∀ {vs : List V} {ds : List PyData}, DtAll H vs ds → DpAll K H vs ds
  | _, _, .nil => .nil
  | _, _, .cons a b => .cons (Dt.dp a) (DtAll.dp b)
end
theorem DtAll.len {H : Hp} : ∀ {vs : List V} {ds : List PyData}, DtAll H vs ds → vs.length = ds.length
  | _, _, .nil => rfl
  | _, _, .cons _ t => congrArg (· + 1) (DtAll.len t)
theorem DtAll.app {H : Hp} : ∀ {vs ws : List V} {ds es : List PyData}, DtAll H vs ds → DtAll H ws es → DtAll H (vs ++ ws) (ds ++ es)
  | _, _, _, _, .nil, h => h
  | _, _, _, _, .cons a t, h => .cons a (DtAll.app t h)
theorem DtAll.get {H : Hp} : ∀ {vs : List V} {ds : List PyData} {i : Nat} {v : V}, DtAll H vs ds → vs[i]? = some v → ∃ d, ds[i]? = some d ∧ Dt H v d
  | _, _, _, _, .nil, e => by simp at e
  | _, _, 0, _, .cons a _, e => by
    simp at e
    subst e
    exact ⟨_, rfl, a⟩
  | _, _, i + 1, _, .cons _ t, e => by
    obtain ⟨d, h1, h2⟩ := DtAll.get (i := i) t (by simpa using e)
    exact ⟨d, by simpa using h1, h2⟩
theorem DtAll.del {H : Hp} : ∀ {vs : List V} {ds : List PyData} (i : Nat), DtAll H vs ds → DtAll H (vs.eraseIdx i) (ds.eraseIdx i)
  | _, _, _, .nil => .nil
  | _, _, 0, .cons _ t => t
  | _, _, i + 1, .cons a t => .cons a (DtAll.del i t)
theorem DtAll.strs {H : Hp} : ∀ {ls : List Nm} {vs : List V}, DtAll H vs (ls.map strD) → vs = (ls.map S).map V.str
  | [], _, .nil => rfl
  | l :: r, _, .cons (.str _) t => by
    rw [DtAll.strs (ls := r) t]
    rfl
theorem dt_strs (H : Hp) : ∀ ls : List Nm, DtAll H ((ls.map S).map V.str) (ls.map strD)
  | [] => .nil
  | _ :: r => .cons (.str _) (dt_strs H r)
theorem perm_erase {α : Type} : ∀ {l : List α} {k : Nat} {x : α}, l[k]? = some x → (x :: l.eraseIdx k).Perm l
  | [], _, _, e => by simp at e
  | a :: r, 0, x, e => by
    simp at e
    subst e
    exact .refl _
  | a :: r, k + 1, x, e => by
    have ih := perm_erase (l := r) (k := k) (x := x) (by simpa using e)
    show (x :: a :: r.eraseIdx k).Perm (a :: r)
    exact (List.Perm.swap a x _).trans (ih.cons a)
theorem perm_pick {α : Type} {l1 l2 m : List α} {x : α} {k : Nat} (h : (l1 ++ l2).Perm m) (e : l2[k]? = some x) : ((l1 ++ [x]) ++ l2.eraseIdx k).Perm m := by
  rw [List.append_assoc]
  exact ((List.Perm.refl l1).append (perm_erase e)).trans h
theorem map_erase {α β : Type} (f : α → β) : ∀ (l : List α) (k : Nat), (l.map f).eraseIdx k = (l.eraseIdx k).map f
  | [], _ => rfl
  | _ :: _, 0 => rfl
  | a :: r, k + 1 => congrArg (f a :: ·) (map_erase f r k)
/-- a tuple of texts: of this heap, or one known through and through -/
def TupAt (H : Hp) (a : Addr) (xs : List V) : Prop := H a = some (.tup xs) ∨ ∃ o : Obj, o.dict = none ∧ H a = some (.frz o (.tup xs))
theorem TupAt.sq {K : PySem.W.Frag} {H : Hp} {a : Addr} {xs : List V} (h : TupAt H a xs) : SqT K H a xs := h.elim (fun h => .inl (.inl h)) fun ⟨o, _, h⟩ => .inl (.inr ⟨o, h⟩)
theorem TupAt.ne {H : Hp} {a p : Addr} {xs : List V} (h : TupAt H a xs) (n : H p = none) : a ≠ p := h.elim (fun h => ne_of_none h n) fun ⟨_, _, h⟩ => ne_of_none h n
theorem TupAt.same {H H' : Hp} {a : Addr} {xs : List V} (h : TupAt H a xs) (s : Same H H') : TupAt H' a xs := h.elim (fun h => .inl (s _ _ h)) fun ⟨o, d, h⟩ => .inr ⟨o, d, s _ _ h⟩
theorem TupAt.upd {H : Hp} {a p : Addr} {xs : List V} {o : HO} (h : TupAt H a xs) (n : H p = none) : TupAt (L2.upd H p o) a xs := h.elim (fun q => .inl (by rw [upd_ne (ne_of_none q n)]; exact q)) fun ⟨u, d, q⟩ => .inr ⟨u, d, by rw [upd_ne (ne_of_none q n)]; exact q⟩
theorem TupAt.updN {H : Hp} {a p : Addr} {xs : List V} {o : HO} (h : TupAt H a xs) (n : a ≠ p) : TupAt (L2.upd H p o) a xs := h.elim (fun q => .inl (by rw [upd_ne n]; exact q)) fun ⟨u, d, q⟩ => .inr ⟨u, d, by rw [upd_ne n]; exact q⟩
end Far

namespace Far
open PySem PySem.Spec PyProof.Rows L2
section
variable {X : Cx} {a o e : Expr} {ta to te : TE}
/-- tuple(xs) of a list, the new tuple known through and through -/
def tTupZ (K : PySem.W.Frag) (ta : TE) : TE := fun σ H Q => ta σ H fun x H1 => ∃ (l : Addr) (xs : List V), x = .ref l ∧ SqL K H1 l xs ∧ ∀ (p : Addr) (o : Obj), H1 p = none → o.dict = none → Q (.ref p) (upd H1 p (.frz o (.tup xs)))
theorem pe_tupleZ {p pos : Pos} (hg : Gl X "tuple") (hm : X.mg "tuple" = none) (ha : PE X a ta) (na : starEach [a] X.env = (false, eval a X.env) :: starEach [] X.env := by rfl) : PE X (.Call (.Name "tuple" p) [a] [] pos) (tTupZ X.K ta) := by
  refine ⟨fun pins s σ H Q I h => ?_⟩
  refine Call_ (ld_blt I hg hm bt_tuple (PyProof.Rows.callWith_type1 (one_arg ha I h (fun v s2 x H2 I2 r q => ?_) na) na))
  obtain ⟨l, xs, rfl, hq, q⟩ := q
  cases r
  obtain ⟨its, rv, pl, hz⟩ := I2.list hq
  refine call_tuple_list pl.isList (fun h' k => ?_) (by rw [List.size_toArray, ← rv.length]; exact hz)
  have I3 : Inv X pins σ H2 { s2 with heap := h' } := I2.kept (t' := s2.toks) k
  have new : (h'.push { cls := .type "tuple", data := .seq its.toArray }).get? h'.objs.size = some ({ cls := .type "tuple", data := .seq its.toArray } : Obj) := Heap.get?_push_size _ rfl
  exact ⟨.ref h'.objs.size, _, I3.laid (t' := s2.toks) (o := .frz { cls := .type "tuple", data := .seq its.toArray } (.tup xs)) (fun b o e => Heap.get?_push_of_some _ e) (Nat.le_refl _)
    (show ObjOk X.prog X.w _ _ _ (.frz _ (.tup xs)) from ⟨new, hz, its, rv, IsTup.new _ _⟩), rfl, q _ _ (I3.hok.fresh (Nat.le_refl _)) rfl⟩
/-- t.index(x), the first place, of a tuple of texts known through and through -/
def tIxZ (to te : TE) : TE := fun σ H Q => to σ H fun x H1 => ∃ (p : Addr) (ys : List Str) (u : Obj), x = .ref p ∧ u.dict = none ∧ H1 p = some (.frz u (.tup (ys.map V.str))) ∧ te σ H1 fun y H2 => H2 p = H1 p ∧ ∃ (z : Str) (j : Nat), y = .str z ∧ ys[j]? = some z ∧ (∀ m, m < j → ys[m]? ≠ some z) ∧ Q (.int (j : Nat)) H2
theorem pe_ixZ {apos cpos : Pos} (ho : PE X o to) (he : PE X e te) (hbase : attributeBase o "index" X.env (eval o X.env) = eval o X.env := by rfl)
    (hfew : ((backTo cpos (starEach [e] X.env)).all (fun x => !x.1) && (backToKw cpos (keywordEach [] X.env)).all (fun x => x.1.isSome)
      && decide ([e].length + ([] : List Keyword).length + (if ([] : List Keyword).isEmpty then 0 else 1) < 30)) = true := by rfl)
    (hline : (apos.endLine == cpos.line) = true := by rfl) (na : starEach [e] X.env = (false, eval e X.env) :: starEach [] X.env := by rfl) :
    PE X (.Call (.Attribute o "index" apos) [e] [] cpos) (tIxZ to te) := by
  refine ⟨fun pins s σ H Q I h => ?_⟩
  refine wpAny_Call_method_late hbase hfew hline rfl (thn (ho.run pins s σ H _ I h) fun v s1 ⟨x, H1, I1, r1, q1⟩ => ?_)
  obtain ⟨p, ys, u, rfl, hd, hp, q1⟩ := q1
  cases r1
  have fz : ObjOk X.prog X.w H1 s1.heap p (.frz u (.tup (ys.map V.str))) := I1.hok p _ hp
  obtain ⟨hu, hz, its, rv, it⟩ := fz
  refine ⟨"tuple", "tuple.index", PySem.F.plainAttrs_tuple, PySem.F.slot_tuple_index, PySem.F.type_tuple_index, it.typeIs, fun c e => by cases e; exact ⟨u, hu, hd⟩, ?_⟩
  have hA : wpAny (model X.prog X.w) X.A (spliced (backTo cpos (starEach [e] X.env))) (fun us s2 => wpAny (model X.prog X.w) X.A (call (.builtin "tuple.index") (.ref p :: us)) (EP X pins σ Q) X.xe s2) X.xe s1 :=
    one_arg he I1 q1 (fun y s2 x H2 I2 r2 q2 => by
      obtain ⟨same, z, j, rfl, hj, hno, q⟩ := q2
      exact mt_tup_index pins s2 σ H2 (.ref p) [.str z] (.ref p) [y] Q I2 rfl (.cons r2 .nil) ⟨p, ys, z, j, rfl, rfl, .inl (.inr ⟨u, same.trans hp⟩), hj, hno, q⟩) na
  rw [na] at hA ⊢
  exact Calls.callWith_builtin (by rfl) (Calls.evalArgs_plain hA)
/-- (a, b, ..), the new tuple known through and through -/
def tTupD (ta : TA) : TE := fun σ H Q => ta σ H fun xs H1 => xs.length ≤ sizeLine ∧ ∀ (p : Addr) (o : Obj), H1 p = none → o.dict = none → Q (.ref p) (upd H1 p (.frz o (.tup xs)))
theorem pe_tupD {es : List Expr} {x1 : Nat} {pos : Pos} {t : TA} (h : PA X es t) : PE X (.Tuple es x1 pos) (tTupD t) := by
  refine ⟨fun pins s σ H Q I hq => ?_⟩
  refine wpAny_Tuple_spliced (thn (h.run pos pins s σ H _ I hq) fun us s1 ⟨xs, H1, I1, r, z, q⟩ => ⟨by rw [← r.length]; exact z, ?_⟩)
  have hf : H1 s1.heap.objs.size = none := I1.hok.fresh (Nat.le_refl _)
  have new : (s1.heap.push { cls := .type "tuple", data := .seq us.toArray }).get? s1.heap.objs.size = some ({ cls := .type "tuple", data := .seq us.toArray } : Obj) := Heap.get?_push_size _ rfl
  refine ⟨.ref s1.heap.objs.size, upd H1 s1.heap.objs.size (.frz { cls := .type "tuple", data := .seq us.toArray } (.tup xs)), I1.laid (t' := s1.toks) (fun b u e => Heap.get?_push_of_some _ e) (Nat.le_refl _) ?_, rfl, q _ _ hf rfl⟩
  exact (show ObjOk X.prog X.w _ _ _ (.frz _ (.tup xs)) from ⟨new, z, us, r, IsTup.new _ _⟩)
end
end Far

namespace Far
open PySem PySem.Spec PyProof.Rows L2
open C8 (pss_cut tCut)
open SX (S)
abbrev s_law_tree : Stmt := topS 30
abbrev N_law_tree : List Str := ["seed", "most", "many", "shape", "kind", "names", "ties", "k", "order", "near", "at", "pair"]
theorem sc_law_tree : FnScope N_law_tree ["seed", "most"] (defScope s_law_tree) := ⟨rfl, rfl, rfl, by decide +kernel, rfl, by decide +kernel, by decide +kernel⟩
def iV (j : Nat) : V := .int j
theorem rgV_nat (n : Nat) : rgV 0 (n : Int) = (List.range n).map iV := by
  unfold rgV
  rw [show ((n : Int) - 0).toNat = n by omega]
  refine List.map_congr_left fun i _ => ?_
  show V.int (0 + (i : Int)) = V.int i
  rw [Int.zero_add]
theorem getD_range : ∀ ls : List Nm, (List.range ls.length).map (fun j => ls.getD j []) = ls
  | [] => rfl
  | a :: r => by
    rw [List.length_cons, List.range_succ_eq_map, List.map_cons, List.map_map]
    congr 1
    exact getD_range r
/-- the names in the order told -/
def inOrd (ls : List Nm) (js : List Nat) : List Nm := js.map fun j => ls.getD j []
theorem inOrd_perm {ls : List Nm} {js : List Nat} (h : js.Perm (List.range ls.length)) : (inOrd ls js).Perm ls := by
  have := h.map fun j => ls.getD j []
  rwa [getD_range] at this
theorem inOrd_at {ls : List Nm} {js : List Nat} (h : js.Perm (List.range ls.length)) {a : Nat} (ha : a < ls.length) : ∃ (j : Nat) (x : Nm), (js.map iV)[a]? = some (.int j) ∧ ((ls.map S).map V.str)[j]? = some (.str (S x)) ∧ (inOrd ls js)[a]? = some x := by
  have hl : js.length = ls.length := by rw [h.length_eq, List.length_range]
  have h1 : js[a]? = some (js[a]'(by omega)) := List.getElem?_eq_getElem (by omega)
  generalize js[a]'(by omega) = j at h1
  have hj : j < ls.length := List.mem_range.mp (h.mem_iff.mp (List.mem_of_getElem? h1))
  refine ⟨j, ls[j], by rw [List.getElem?_map, h1]; rfl, by rw [List.getElem?_map, List.getElem?_map, List.getElem?_eq_getElem hj]; rfl, ?_⟩
  unfold inOrd
  rw [List.getElem?_map, h1]
  show some (ls.getD j []) = _
  simp [List.getD, hj]
theorem perm_insert {α : Type} {l m : List α} {x : α} (k : Nat) (h : l.Perm m) : (l.take k ++ [x] ++ l.drop k).Perm (m ++ [x]) := by
  have e : (l.take k ++ [x] ++ l.drop k).Perm (x :: l) := by
    rw [List.append_assoc]
    have := List.perm_middle (a := x) (l₁ := l.take k) (l₂ := l.drop k)
    rw [List.take_append_drop] at this
    exact this
  exact (e.trans (h.cons x)).trans (List.perm_append_singleton x m).symm
theorem DtAll.ins {H : Hp} {vs : List V} {ds : List PyData} {v : V} {d : PyData} (k : Nat) (h : DtAll H vs ds) (hv : Dt H v d) : DtAll H (vs.take k ++ [v] ++ vs.drop k) (ds.take k ++ [d] ++ ds.drop k) := by
  have ht : ∀ (k : Nat) {vs : List V} {ds : List PyData}, DtAll H vs ds → DtAll H (vs.take k) (ds.take k) ∧ DtAll H (vs.drop k) (ds.drop k) := by
    intro k
    induction k with
    | zero => exact fun h => ⟨.nil, h⟩
    | succ k ih =>
      intro vs ds h
      cases h with
      | nil => exact ⟨.nil, .nil⟩
      | cons a t => exact ⟨.cons a (ih t).1, (ih t).2⟩
  exact ((ht k h).1.app (.cons hv .nil)).app (ht k h).2
theorem SeedAt.tk {H H' : Hp} {d : Addr} {n : Nat} (h : SeedAt H d n) (s : SmX d H H') : TK H H' := by
  obtain ⟨xs, e⟩ := h.lst
  exact s.tk e
theorem seq_ix {r : Int} {n : Nat} (h0 : 0 ≤ r) (h1 : r < n) : seqIndex? r n = some r.toNat := by
  refine (ixN_seq (j := r.toNat) ?_).1
  unfold ixN
  rw [if_pos h0, if_pos h1]
/-- within the making of a tree: the names at p, the ties so far at t -/
structure Tr (H H' : Hp) (d p t : Addr) (n : Nat) (ls : List Nm) (tvs : List V) (ts : List Tie) : Prop where
  nm : NamesAt H' p ls
  tt : H' t = some (.lst tvs)
  al : DtAll H' tvs (ts.map tieD)
  sm : SmX d H H'
  dk : SeedAt H' d n
theorem Tr.new {H H' : Hp} {d p t q : Addr} {n : Nat} {ls : List Nm} {tvs : List V} {ts : List Tie} {o : HO} (x : Tr H H' d p t n ls tvs ts) (nq : H' q = none) : Tr H (upd H' q o) d p t n ls tvs ts :=
  ⟨by unfold NamesAt; rw [upd_ne (ne_of_none x.nm nq)]; exact x.nm, by rw [upd_ne (ne_of_none x.tt nq)]; exact x.tt, DtAll.keep (TK.new nq) x.al, x.sm.new nq, x.dk.new nq⟩
theorem Tr.step {H H' H'' : Hp} {d p t : Addr} {n m : Nat} {ls : List Nm} {tvs : List V} {ts : List Tie} (x : Tr H H' d p t n ls tvs ts) (npd : p ≠ d) (ntd : t ≠ d) (s : SmX d H' H'') (D : SeedAt H'' d m) : Tr H H'' d p t m ls tvs ts :=
  ⟨s p _ npd x.nm, s t _ ntd x.tt, DtAll.keep (x.dk.tk s) x.al, x.sm.trans s, D⟩
theorem Tr.put {H H' : Hp} {d p t q : Addr} {n : Nat} {ls : List Nm} {tvs xs : List V} {ts : List Tie} {o : HO} (x : Tr H H' d p t n ls tvs ts) (np : q ≠ p) (nt : q ≠ t) (nd : q ≠ d) (n0 : H q = none) (hq : H' q = some (.lst xs)) : Tr H (upd H' q o) d p t n ls tvs ts :=
  ⟨by unfold NamesAt; rw [upd_ne np.symm]; exact x.nm, by rw [upd_ne nt.symm]; exact x.tt, DtAll.keep (TK.mut hq) x.al, x.sm.put n0, x.dk.put nd⟩
theorem Tr.mono {H H' : Hp} {d p t : Addr} {n m : Nat} {ls : List Nm} {tvs : List V} {ts : List Tie} (x : Tr H H' d p t n ls tvs ts) (h : n ≤ m) : Tr H H' d p t m ls tvs ts := ⟨x.nm, x.tt, x.al, x.sm, x.dk.mono h⟩
section
variable {P : Program} {w : World} {K : PySem.W.Frag} {mg : Str → Option Value} {base : Heap}
/-- the tree's places stand as a tuple that is known through and through -/
def PlZ (H : Hp) (v : V) (pl : List Nm) : Prop := ∃ (t a b : Addr) (o : Obj), v = .ref t ∧ H t = some (.tup [.ref a, .ref b]) ∧ o.dict = none ∧ H a = some (.frz o (.tup ((pl.map S).map V.str)))
theorem PlZ.same {H H' : Hp} {v : V} {pl : List Nm} (h : PlZ H v pl) (s : Same H H') : PlZ H' v pl := by
  obtain ⟨t, a, b, o, e, h1, h2, h3⟩ := h
  exact ⟨t, a, b, o, e, s _ _ h1, h2, s _ _ h3⟩
theorem PlZ.keep {H H' : Hp} {v : V} {pl : List Nm} (h : PlZ H v pl) (s : TK H H') : PlZ H' v pl := by
  obtain ⟨t, a, b, o, e, h1, h2, h3⟩ := h
  exact ⟨t, a, b, o, e, s.tup _ _ h1, h2, s.frz _ _ _ h3⟩
def spTree : Sp := fun vs H Q _ => ∃ (d : Addr) (n : Nat) (most : Nat), vs = [.ref d, .int most] ∧ SeedAt H d n ∧ n < 70000 ∧ 1 ≤ most ∧ most ≤ 30 ∧ ∀ (H' : Hp) (t : Addr) (pl : List Nm) (ts : List Tie), IsTree pl ts → (∀ l ∈ pl, NameOk l) → pl.length ≤ most → Dt H' (.ref t) (treeD pl ts) → PlZ H' (.ref t) pl → SmX d H H' → SeedAt H' d (n + 1000) → Q (.ref t) H'
theorem ok_tree {f : Addr} {fd : FuncData} (F : Fun K "_law_tree" "_law_tree" s_law_tree f fd) (T : TxtG mg) (C_law_draw : Cal P w K mg base 1 "_law_draw" spDraw) (C_law_name : Cal P w K mg base 2 "_law_name" spName) (C_law_length : Cal P w K mg base 2 "_law_length" spLength) : FnOk P w K mg base CX0 3 f fd ["seed", "most"] spTree := by
  refine F.ok sc_law_tree (fun vs H Q E h => ?_) (fun cdv A outer s H vs Q E hr h => ?_)
  · obtain ⟨d, n, most, rfl, _⟩ := h
    rfl
  · obtain ⟨d, n, most, rfl, hD, hn, hm1, hm, q⟩ := h
    refine ⟨_, (pss_cons (ps_set (i := 2) sc_law_tree.nd rfl (.inl rfl) (pe_ix ix_list (pe_lst (pa_cons (pe_op op_add pe_int (pe_c C_law_draw hr (by decide) rfl (pa_cons (pv 0) (pa_cons (pe_callB (call_min2 rfl) (by rfl) T.min bt_min (pa_cons (pv 1) (pa_cons pe_int pa_nil))) pa_nil)))) (pa_cons (pe_op op_add pe_int (pe_c C_law_draw hr (by decide) rfl (pa_cons (pv 0) (pa_cons (pv 1) pa_nil)))) (pa_cons (pv 1) pa_nil)))) (pe_c C_law_draw hr (by decide) rfl (pa_cons (pv 0) (pa_cons pe_int pa_nil))) (fun _ _ => rfl)))
      (pss_cons (ps_set (i := 3) sc_law_tree.nd rfl (.inl rfl) (pe_c C_law_draw hr (by decide) rfl (pa_cons (pv 0) (pa_cons pe_int pa_nil))))
      (pss_cons (ps_set (i := 4) sc_law_tree.nd rfl (.inl rfl) (pe_c C_law_draw hr (by decide) rfl (pa_cons (pv 0) (pa_cons pe_int pa_nil))))
      (pss_cons (ps_set (i := 5) sc_law_tree.nd rfl (.inl rfl) (pe_lst pa_nil))
      (pss_cons (ps_set (i := 6) sc_law_tree.nd rfl (.inl rfl) (pe_lst pa_nil))
      (pss_cut (ps_for PassesOwn.never rfl (pi_range1 (by rfl) T.range (pa_cons (pv 2) pa_nil)) (pg_name (i := 7) sc_law_tree.nd rfl (.inl rfl))
        (pss_one (ps_expr (pe_bm PySem.F.plainAttrs_list PySem.F.slot_list_append PySem.F.type_list_append mt_append (pv 5) (pa_cons (pe_c C_law_name hr (by decide) rfl (pa_cons (pv 0) (pa_cons (pv 5) pa_nil))) pa_nil)))))
      (pss_cons (ps_set (i := 8) sc_law_tree.nd rfl (.inr rfl) (pe_listRg rfl (by rfl) T.list (prg_1 (by rfl) T.range (pv 2))))
      (pss_cut (ps_if (pt_cmpR op_gt (pe_c C_law_draw hr (by decide) rfl (pa_cons (pv 0) (pa_cons pe_int pa_nil))) pe_int (nomark _))
        (pss_one (ps_set (i := 8) sc_law_tree.nd rfl (.inr rfl) (pe_lc (own := [("k", 7)]) (g := gName 7) (tt := tYes) rfl sc_law_tree.nd (pi_range1 (by rfl) T.range (pa_cons (pv 2) pa_nil)) (blkOk_by (N := N_law_tree) (sc := defScope s_law_tree) (by decide +kernel)) (fun _ _ _ _ _ => pg_name (i := 7) sc_law_tree.nd rfl (Or.inl rfl)) (fun _ _ _ _ _ => pts_nil) (fun _ _ _ _ _ => (show PE _ _ (tBM K "list" rPopAt _ _) from pe_bm PySem.F.plainAttrs_list PySem.F.slot_list_pop PySem.F.type_list_pop mt_popAt (pv 8) (pa_cons (pe_c C_law_draw hr (by decide) rfl (pa_cons (pv 0) (pa_cons (pe_callB (lenK (K := K)) (by rfl) T.len bt_len (pa_cons (pv 8) pa_nil)) pa_nil))) pa_nil))))))
        pss_nil)
      (pss_cut (ps_for PassesOwn.never rfl (pi_range2 (by rfl) T.range (pa_cons pe_int (pa_cons (pv 2) pa_nil))) (pg_name (i := 7) sc_law_tree.nd rfl (.inl rfl))
        (pss_cons (ps_set (i := 9) sc_law_tree.nd rfl (.inl rfl) (pe_op op_sub (pe_op op_sub (pv 7) pe_int) (pe_c C_law_draw hr (by decide) rfl (pa_cons (pv 0) (pa_cons (pe_callB (call_min2 rfl) (by rfl) T.min bt_min (pa_cons (pv 7) (pa_cons pe_int pa_nil))) pa_nil)))))
        (pss_cons (ps_set (i := 10) sc_law_tree.nd rfl (.inl rfl) (pe_ix ix_list (pe_lst (pa_cons (pe_op op_sub (pv 7) pe_int) (pa_cons pe_int (pa_cons (pe_op op_mul (pe_op op_mod (pv 7) pe_int) (pe_callTy call_int1 (by rfl) T.int bt_int (pa_cons (pe_cmpR op_gt (pv 7) pe_int (nomark _)) pa_nil))) (pa_cons (pv 9) (pa_cons (pe_c C_law_draw hr (by decide) rfl (pa_cons (pv 0) (pa_cons (pv 7) pa_nil))) (pa_cons (pe_callB (call_max2 rfl) (by rfl) T.max bt_max (pa_cons pe_int (pa_cons (pe_op op_sub (pe_op op_sub (pv 7) pe_int) (pe_op op_mod (pv 7) pe_int)) pa_nil))) pa_nil))))))) (pv 3) (fun _ _ => rfl)))
        (pss_cons (ps_set (i := 11) sc_law_tree.nd rfl (.inl rfl) (pe_stepL (pe_lst (pa_cons (pe_ix ix_list (pv 5) (pe_ix ix_list (pv 8) (pv 10) (fun _ _ => rfl)) (fun _ _ => rfl)) (pa_cons (pe_ix ix_list (pv 5) (pe_ix ix_list (pv 8) (pv 7) (fun _ _ => rfl)) (fun _ _ => rfl)) pa_nil))) (pe_ix ix_list (pe_lst (pa_cons pe_int (pa_cons (pe_un un_neg pe_int) pa_nil))) (pe_c C_law_draw hr (by decide) rfl (pa_cons (pv 0) (pa_cons pe_int pa_nil))) (fun _ _ => rfl))))
        (pss_one (ps_expr (pe_bm PySem.F.plainAttrs_list PySem.F.slot_list_insert PySem.F.type_list_insert mt_insert (pv 6) (pa_cons (pe_c C_law_draw hr (by decide) rfl (pa_cons (pv 0) (pa_cons (pe_op op_add (pe_callB call_len_seq (by rfl) T.len bt_len (pa_cons (pv 6) pa_nil)) pe_int) pa_nil))) (pa_cons (pe_tup (pa_cons (pe_ix ix_list (pv 11) pe_int (fun _ _ => rfl)) (pa_cons (pe_ix ix_list (pv 11) pe_int (fun _ _ => rfl)) (pa_cons (pe_c C_law_length hr (by decide) rfl (pa_cons (pv 0) (pa_cons (pv 4) pa_nil))) pa_nil)))) pa_nil)))))))))
      (pss_one (ps_ret (pe_tup (pa_cons (pe_tupleZ (by rfl) T.tuple (pv 5)) (pa_cons (pe_tupleOf (by rfl) T.tuple (pv 6)) pa_nil)))))))))))))), ?_⟩
    -- many
    refine ⟨_, rfl, _, rfl, _, _, rfl, d, n, _, rfl, hD, by omega, by split <;> omega, by split <;> omega, fun H1 r1 r10 r11 S1 D1 => ⟨_, _, rfl, rfl, ?_⟩⟩
    have r12 : r1 < most := by split at r11 <;> omega
    refine ⟨_, rfl, _, rfl, d, _, most, rfl, D1, by omega, by omega, by omega, fun H2 r2 r20 r21 S2 D2 => ⟨_, _, rfl, rfl, ?_⟩⟩
    refine ⟨_, rfl, (by show 3 ≤ sizeLine; decide), fun p1 np1 => ?_⟩
    refine ⟨_, rfl, d, _, 3, rfl, D2.new np1, by omega, by decide, by decide, fun H3 r3 r30 r31 S3 D3 => ?_⟩
    have hp1 := S3 p1 _ (D2.nd np1) upd_same
    have SM3 : SmX d H H3 := ((S1.trans S2).new np1).trans S3
    obtain ⟨v, hv, mv⟩ := atI_in (xs := [V.int (1 + r1), .int (1 + r2), .int most]) r30 (by simpa using r31)
    have hs : ∃ m : Nat, v = .int m ∧ 1 ≤ m ∧ m ≤ most := by
      simp only [List.mem_cons, List.not_mem_nil, or_false] at mv
      rcases mv with e | e | e
      · exact ⟨(1 + r1).toNat, by rw [e]; congr 1; omega, by omega, by omega⟩
      · exact ⟨(1 + r2).toNat, by rw [e]; congr 1; omega, by omega, by omega⟩
      · exact ⟨most, e, by omega, by omega⟩
    obtain ⟨many, rfl, m1, mm⟩ := hs
    refine ⟨p1, _, r3, _, rfl, rfl, SqL.of hp1, hv, ?_⟩
    -- shape, kind
    refine ⟨_, rfl, d, _, 6, rfl, D3, by omega, by decide, by decide, fun H4 shape w0 w1 S4 D4 => ?_⟩
    refine ⟨_, rfl, d, _, 5, rfl, D4, by omega, by decide, by decide, fun H5 kind g0 g1 S5 D5 => ?_⟩
    have SM5 : SmX d H H5 := (SM3.trans S4).trans S5
    -- names, ties
    refine ⟨Nat.zero_le _, fun p np => ?_⟩
    have npd : p ≠ d := D5.nd np
    have np0 : H p = none := SM5.free np npd
    have D6 := D5.new (o := .lst []) np
    have SM6 : SmX d H (upd H5 p (.lst [])) := SM5.new np
    refine ⟨Nat.zero_le _, fun t nt => ?_⟩
    have ntd : t ≠ d := D6.nd nt
    have nt0 : H t = none := SM6.free nt ntd
    have ntp : p ≠ t := ne_of_none upd_same nt
    -- the names
    refine ⟨fun σ' H' => ∃ (x7 : Option V) (ls : List Nm), σ' = [some (.ref d), some (.int most), some (.int many), some (.int shape), some (.int kind), some (.ref p), some (.ref t), x7, none, none, none, none] ∧ ls.length = many ∧ ls.Nodup ∧ (∀ l ∈ ls, NameOk l) ∧ Tr H H' d p t (n + 5 + 20 * many) ls [] [], ?_, fun σ' H' hM => ?_⟩
    · refine ⟨_, rfl, (many : Int), rfl, by omega, by omega, ?_⟩
      refine for_range (lo := 0) (n := (many : Int).toNat) (fun i σ' H' => ∃ (x7 : Option V) (ls : List Nm), σ' = [some (.ref d), some (.int most), some (.int many), some (.int shape), some (.int kind), some (.ref p), some (.ref t), x7, none, none, none, none] ∧ ls.length = i ∧ ls.Nodup ∧ (∀ l ∈ ls, NameOk l) ∧ Tr H H' d p t (n + 5 + 20 * i) ls [] []) ⟨none, [], rfl, rfl, List.nodup_nil, by simp, ?_, upd_same, .nil, SM6.new nt, D6.new nt⟩ (fun i σ' H' hi hP => ?_) (fun σ' H' hP => ?_)
      · unfold NamesAt
        rw [upd_ne ntp]
        exact upd_same
      · obtain ⟨x7, ls, rfl, hl, nd, ok, X0⟩ := hP
        refine ⟨_, rfl, .inl ⟨rfl, _, SqL.of X0.nm⟩, _, rfl, _, rfl, d, p, _, ls, rfl, X0.dk, by omega, npd, X0.nm, by omega, ok, fun H7 l lok nin S7 D7 => ?_⟩
        have X7 := X0.step npd ntd S7 D7
        refine ⟨p, _, _, rfl, rfl, X7.nm, by rw [List.length_map, List.length_map]; exact sz_lt (by omega), ?_⟩
        refine ⟨_, ls ++ [l], rfl, by rw [List.length_append, hl]; rfl, nd_snoc' nd nin, fun x hx => ?_, ?_, ?_, ?_, X7.sm.put np0, (X7.dk.put npd).mono (by omega)⟩
        · rcases List.mem_append.mp hx with z | z
          · exact ok x z
          · rw [List.mem_singleton.mp z]
            exact lok
        · unfold NamesAt
          rw [upd_same, List.map_append, List.map_append]
          rfl
        · rw [upd_ne ntp.symm]
          exact X7.tt
        · exact .nil
      · obtain ⟨x7, ls, rfl, hl, nd, ok, X0⟩ := hP
        exact ⟨x7, ls, rfl, by omega, nd, ok, X0.mono (by omega)⟩
    obtain ⟨x7, ls, rfl, hl, nd, ok, X1⟩ := hM
    -- order
    refine ⟨_, rfl, (many : Int), rfl, RgOk.of_le (by omega) (by omega) (by omega) (by omega), fun o no => ?_⟩
    rw [rgV_nat]
    have X2 := X1.new (o := .lst ((List.range many).map iV)) no
    have od : o ≠ d := X1.dk.nd no
    have o0 : H o = none := X1.sm.free no od
    have op : o ≠ p := (ne_of_none X1.nm no).symm
    have ot : o ≠ t := (ne_of_none X1.tt no).symm
    refine ⟨fun σ' H' => ∃ (x7 : Option V) (o : Addr) (js : List Nat), σ' = [some (.ref d), some (.int most), some (.int many), some (.int shape), some (.int kind), some (.ref p), some (.ref t), x7, some (.ref o), none, none, none] ∧ o ≠ d ∧ o ≠ p ∧ o ≠ t ∧ H o = none ∧ js.Perm (List.range ls.length) ∧ H' o = some (.lst (js.map iV)) ∧ Tr H H' d p t (n + 640) ls [] [], ?_, fun σ' H' hM => ?_⟩
    · refine ⟨_, rfl, d, _, 3, rfl, X2.dk, by omega, by decide, by decide, fun H7 r7 r70 r71 S7 D7 => ?_⟩
      have X7 := X2.step npd ntd S7 D7
      have ho7 : H7 o = some (.lst ((List.range many).map iV)) := S7 o _ od upd_same
      refine ⟨_, _, rfl, rfl, _, rfl, ?_⟩
      refine ite2 (fun e => ?_) (fun e => ?_)
      · refine ⟨_, rfl, (many : Int), rfl, by omega, by omega, fun D nD => ?_⟩
        have Dd := X7.dk.nd nD
        have D0 : H D = none := X7.sm.free nD Dd
        have Dp' : D ≠ p := (ne_of_none X7.nm nD).symm
        have DNt : D ≠ t := (ne_of_none X7.tt nD).symm
        have Do : D ≠ o := (ne_of_none ho7 nD).symm
        refine lc_range (lo := 0) (n := (many : Int).toNat) (fun i H'' => ∃ l1 l2 : List Nat, l1.length = i ∧ (l1 ++ l2).Perm (List.range many) ∧ H'' D = some (.lst (l1.map iV)) ∧ H'' o = some (.lst (l2.map iV)) ∧ Tr H H'' d p t (n + 6 + 20 * many + i) ls [] [])
          ⟨[], List.range many, rfl, List.Perm.refl _, upd_same, by rw [upd_ne Do.symm]; exact ho7, (X7.new nD).mono (by omega)⟩ (fun i H'' hi hP => ?_) (fun H'' hP => ?_)
        · obtain ⟨l1, l2, hl1, pm, hDD, ho, X3⟩ := hP
          have ll := pm.length_eq
          rw [List.length_append, List.length_range] at ll
          refine ⟨rfl, _, rfl, .inl ⟨rfl, _, SqL.of ho⟩, _, rfl, _, rfl, .ref o, _, rfl, .inl ⟨_, SqL.of ho, rfl⟩, d, _, _, rfl, X3.dk, by omega, by rw [List.length_map]; omega, by rw [List.length_map]; omega, fun H8 r r0 r1 S8 D8 => ?_⟩
          have X8 := X3.step npd ntd S8 D8
          have hD8 := S8 D _ Dd hDD
          have ho8 := S8 o _ od ho
          rw [List.length_map] at r1
          have hx : l2[r.toNat]? = some (l2[r.toNat]'(by omega)) := List.getElem?_eq_getElem (by omega)
          generalize l2[r.toNat]'(by omega) = x at hx
          have hx' : (l2.map iV)[r.toNat]? = some (iV x) := by
            rw [List.getElem?_map, hx]
            rfl
          refine ⟨o, _, r, r.toNat, iV x, rfl, rfl, ho8, by omega, by omega, seq_ix r0 (by rw [List.length_map]; exact r1), hx', ?_⟩
          have X9 := X8.put (o := .lst ((l2.map iV).eraseIdx r.toNat)) op ot od o0 ho8
          have hD9 : (upd H8 o (.lst ((l2.map iV).eraseIdx r.toNat))) D = some (.lst (l1.map iV)) := by
            rw [upd_ne Do]
            exact hD8
          refine ⟨_, hD9, by rw [List.length_map]; exact sz_lt (by omega), l1 ++ [x], l2.eraseIdx r.toNat, by rw [List.length_append, hl1]; rfl, perm_pick pm hx, ?_, ?_, X9.put Dp' DNt Dd D0 hD9⟩
          · rw [upd_same, List.map_append]
            rfl
          · rw [upd_ne Do.symm, upd_same, map_erase]
        · obtain ⟨l1, l2, hl1, pm, hDD, ho, X3⟩ := hP
          have ll := pm.length_eq
          rw [List.length_append, List.length_range] at ll
          have e2 : l2 = [] := List.length_eq_zero_iff.mp (by omega)
          subst e2
          rw [List.append_nil] at pm
          exact ⟨_, D, l1, rfl, Dd, Dp', DNt, D0, by rw [hl]; exact pm, hDD, X3.mono (by omega)⟩
      · exact ⟨_, o, List.range many, rfl, od, op, ot, o0, by rw [hl], ho7, X7.mono (by omega)⟩
    clear x7 X1 X2 no od o0 op ot
    clear o
    obtain ⟨x7, o, js, rfl, od, op, ot, o0, pj, ho, X1⟩ := hM
    have pos := inOrd_perm pj
    have ol : (inOrd ls js).length = many := by rw [pos.length_eq, hl]
    have ond : (inOrd ls js).Nodup := pos.nodup_iff.mpr nd
    -- the ties
    refine ⟨fun σ' H' => ∃ (x7 x9 x10 x11 : Option V) (tvs : List V) (ts es : List Tie), σ' = [some (.ref d), some (.int most), some (.int many), some (.int shape), some (.int kind), some (.ref p), some (.ref t), x7, some (.ref o), x9, x10, x11] ∧ Grown (inOrd ls js) es ∧ ts.Perm es ∧ Tr H H' d p t (n + 1000) ls tvs ts, ?_, fun σ' H' hM => ?_⟩
    · refine ⟨_, rfl, 1, many, rfl, ⟨by decide, by decide, by omega, by omega⟩, ?_⟩
      refine for_range (lo := 1) (n := ((many : Int) - 1).toNat) (fun i σ' H' => ∃ (x7 x9 x10 x11 : Option V) (tvs : List V) (ts es : List Tie), σ' = [some (.ref d), some (.int most), some (.int many), some (.int shape), some (.int kind), some (.ref p), some (.ref t), x7, some (.ref o), x9, x10, x11] ∧ Grown ((inOrd ls js).take (i + 1)) es ∧ ts.Perm es ∧ H' o = some (.lst (js.map iV)) ∧ Tr H H' d p t (n + 640 + 8 * i) ls tvs ts) ⟨_, _, _, _, [], [], [], rfl, ?_, List.Perm.refl _, ho, X1⟩ (fun i σ' H' hi hP => ?_) (fun σ' H' hP => ?_)
      · cases hos : inOrd ls js with
        | nil => rw [hos] at ol; simp at ol; omega
        | cons a r => exact Grown.one a
      · obtain ⟨x7, x9, x10, x11, tvs, ts, es, rfl, hG, pm, ho0, X0⟩ := hP
        have hi' : i + 1 < many := by omega
        -- near
        refine ⟨_, rfl, _, _, rfl, rfl, _, rfl, _, rfl, _, _, rfl, d, _, _, rfl, X0.dk, by omega, by split <;> omega, by split <;> omega, fun H7 nr nr0 nr1 S7 D7 => ⟨_, _, rfl, rfl, ?_⟩⟩
        have nr2 : nr < 1 + (i : Int) := by split at nr1 <;> omega
        have X7 := X0.step npd ntd S7 D7
        have ho7 := S7 o _ od ho0
        -- at
        refine ⟨_, rfl, _, _, rfl, rfl, _, rfl, _, _, rfl, rfl, (by show (0 : Int) < _; decide), ?_⟩
        refine ⟨_, rfl, _, _, rfl, rfl, .inr ⟨_, rfl, ?_⟩⟩
        refine ⟨_, _, rfl, rfl, .inl ⟨by omega, by omega⟩, _, rfl, _, rfl, _, rfl, d, _, _, rfl, X7.dk, by omega, by omega, by omega, fun H8 a a0 a1 S8 D8 => ?_⟩
        have X8 := X7.step npd ntd S8 D8
        have ho8 := S8 o _ od ho7
        refine ⟨_, rfl, _, _, rfl, rfl, _, rfl, _, _, rfl, rfl, (by show (0 : Int) < _; decide), _, _, rfl, rfl, _, _, rfl, (by show 6 ≤ sizeLine; decide), fun p8 np8 => ?_⟩
        have X9 := X8.new (o := .lst [V.int (1 + (i : Int) - 1), .int 0, .int ((1 + (i : Int)) % 2 * if decide (1 + (i : Int) > 1) = true then 1 else 0), .int (1 + (i : Int) - 1 - nr), .int a, .int (if 1 + (i : Int) - 1 - (1 + (i : Int)) % 2 > 0 then 1 + (i : Int) - 1 - (1 + (i : Int)) % 2 else 0)]) np8
        obtain ⟨v, hv, mv⟩ := atI_in (xs := [V.int (1 + (i : Int) - 1), .int 0, .int ((1 + (i : Int)) % 2 * if decide (1 + (i : Int) > 1) = true then 1 else 0), .int (1 + (i : Int) - 1 - nr), .int a, .int (if 1 + (i : Int) - 1 - (1 + (i : Int)) % 2 > 0 then 1 + (i : Int) - 1 - (1 + (i : Int)) % 2 else 0)]) w0 (by simpa using w1)
        have hs : ∃ m : Nat, v = .int m ∧ m < i + 1 := by
          simp only [List.mem_cons, List.not_mem_nil, or_false] at mv
          rcases mv with e | e | e | e | e | e
          · exact ⟨i, by rw [e]; congr 1; omega, by omega⟩
          · exact ⟨0, e, by omega⟩
          · by_cases z : decide (1 + (i : Int) > 1) = true
            · rw [if_pos z, Int.mul_one] at e
              have z := of_decide_eq_true z
              exact ⟨((1 + (i : Int)) % 2).toNat, by rw [e, Int.toNat_of_nonneg (by omega)], by omega⟩
            · rw [if_neg z, Int.mul_zero] at e
              exact ⟨0, e, by omega⟩
          · exact ⟨(1 + (i : Int) - 1 - nr).toNat, by rw [e, Int.toNat_of_nonneg (by omega)], by omega⟩
          · exact ⟨a.toNat, by rw [e]; congr 1; omega, by omega⟩
          · by_cases z : 1 + (i : Int) - 1 - (1 + (i : Int)) % 2 > 0
            · rw [if_pos z] at e
              exact ⟨(1 + (i : Int) - 1 - (1 + (i : Int)) % 2).toNat, by rw [e]; congr 1; omega, by omega⟩
            · rw [if_neg z] at e
              exact ⟨0, e, by omega⟩
        obtain ⟨at', rfl, hat⟩ := hs
        refine ⟨_, rfl, p8, _, shape, _, rfl, rfl, SqL.of upd_same, hv, ?_⟩
        have ho9 : ∀ O, (upd H8 p8 O) o = some (.lst (js.map iV)) := fun O => by
          rw [upd_ne (ne_of_none ho8 np8)]
          exact ho8
        -- pair
        obtain ⟨ja, xa, ga, na, oa⟩ := inOrd_at pj (a := at') (by omega)
        obtain ⟨jk, xk, gk, nk, ok'⟩ := inOrd_at pj (a := i + 1) (by omega)
        have ek : 1 + (i : Int) = ((i + 1 : Nat) : Int) := by omega
        refine ⟨_, rfl, _, rfl, _, rfl, o, _, at', _, rfl, rfl, SqL.of (ho9 _), atI_nat ga, p, _, ja, _, rfl, rfl, SqL.of X9.nm, atI_nat na, ?_⟩
        refine ⟨_, rfl, _, rfl, _, rfl, o, _, 1 + (i : Int), _, rfl, rfl, SqL.of (ho9 _), by rw [ek]; exact atI_nat gk, p, _, jk, _, rfl, rfl, SqL.of X9.nm, atI_nat nk, (by show 2 ≤ sizeLine; decide), fun q1 nq1 => ?_⟩
        have X10 := X9.new (o := .lst [.str (S xa), .str (S xk)]) nq1
        refine ⟨_, rfl, (by show 2 ≤ sizeLine; decide), fun q2 nq2 => ?_⟩
        have X11 := X10.new (o := .lst [.int 1, .int (-1)]) nq2
        refine ⟨_, rfl, d, _, 2, rfl, X11.dk, by omega, by decide, by decide, fun H12 b b0 b1 S12 D12 => ?_⟩
        have X12 := X11.step npd ntd S12 D12
        have hq1 : H12 q1 = some (.lst [.str (S xa), .str (S xk)]) := S12 q1 _ (X9.dk.nd nq1) (by rw [upd_ne (ne_of_none upd_same nq2)]; exact upd_same)
        have hq2 : H12 q2 = some (.lst [.int 1, .int (-1)]) := S12 q2 _ (X10.dk.nd nq2) upd_same
        have ho12 : H12 o = some (.lst (js.map iV)) := S12 o _ od (by rw [upd_ne (ne_of_none (by rw [upd_ne (ne_of_none (ho9 _) nq1)]; exact ho9 _) nq2), upd_ne (ne_of_none (ho9 _) nq1)]; exact ho9 _)
        obtain ⟨v, hv, mv⟩ := atI_in (xs := [V.int 1, .int (-1)]) b0 (by simpa using b1)
        have hs : ∃ z : Int, v = .int z ∧ (z = 1 ∨ z = -1) := by
          simp only [List.mem_cons, List.not_mem_nil, or_false] at mv
          rcases mv with e | e
          · exact ⟨1, e, .inl rfl⟩
          · exact ⟨-1, e, .inr rfl⟩
        obtain ⟨z, rfl, hz⟩ := hs
        refine ⟨q2, _, b, _, rfl, rfl, SqL.of hq2, hv, z, rfl, q1, _, z, rfl, rfl, hz, SqL.of hq1, fun q3 nq3 => ?_⟩
        obtain ⟨ya, yb, ey, hab⟩ : ∃ ya yb : Nm, (if z = 1 then [V.str (S xa), .str (S xk)] else [V.str (S xa), .str (S xk)].reverse) = [.str (S ya), .str (S yb)] ∧ ((ya = xa ∧ yb = xk) ∨ (ya = xk ∧ yb = xa)) := by
          rcases hz with z1 | z1
          · exact ⟨xa, xk, by rw [if_pos z1], .inl ⟨rfl, rfl⟩⟩
          · exact ⟨xk, xa, by rw [if_neg (by rw [z1]; decide)]; rfl, .inr ⟨rfl, rfl⟩⟩
        rw [ey]
        have X13 := X12.new (o := .lst [.str (S ya), .str (S yb)]) nq3
        have ho13 : (upd H12 q3 (.lst [.str (S ya), .str (S yb)])) o = some (.lst (js.map iV)) := by
          rw [upd_ne (ne_of_none ho12 nq3)]
          exact ho12
        have tl : tvs.length = ts.length := by
          have := DtAll.len X13.al
          rwa [List.length_map] at this
        have gl := hG.len
        rw [List.length_take] at gl
        have pl := pm.length_eq
        -- ties.insert
        refine ⟨_, rfl, .inl ⟨rfl, _, SqL.of X13.tt⟩, _, rfl, _, rfl, t, _, rfl, .inl (SqL.of X13.tt), _, _, rfl, rfl, d, _, _, rfl, X13.dk, by omega, by omega, by omega, fun H14 r r0 r1 S14 D14 => ?_⟩
        have X14 := X13.step npd ntd S14 D14
        have hq3 : H14 q3 = some (.lst [.str (S ya), .str (S yb)]) := S14 q3 _ (X12.dk.nd nq3) upd_same
        have ho14 := S14 o _ od ho13
        refine ⟨_, rfl, q3, _, 0, _, rfl, rfl, SqL.of hq3, rfl, _, rfl, q3, _, 1, _, rfl, rfl, SqL.of hq3, rfl, ?_⟩
        refine ⟨_, rfl, _, rfl, d, _, kind, rfl, X14.dk, by omega, g0, g1, fun H15 lg l0 l1 S15 D15 => ?_⟩
        have X15 := X14.step npd ntd S15 D15
        have ho15 := S15 o _ od ho14
        refine ⟨(by show 3 ≤ sizeLine; decide), fun e4 ne4 => ?_⟩
        have X16 := X15.new (o := .tup [.str (S ya), .str (S yb), .int lg]) ne4
        have ho16 : (upd H15 e4 (.tup [.str (S ya), .str (S yb), .int lg])) o = some (.lst (js.map iV)) := by
          rw [upd_ne (ne_of_none ho15 ne4)]
          exact ho15
        refine ⟨t, tvs, r, _, rfl, rfl, X16.tt, sz_lt (by omega), r0, by omega, ?_⟩
        have tk : TK (upd H15 e4 (.tup [.str (S ya), .str (S yb), .int lg])) (upd (upd H15 e4 (.tup [.str (S ya), .str (S yb), .int lg])) t (.lst (tvs.take r.toNat ++ [.ref e4] ++ tvs.drop r.toNat))) := TK.mut X16.tt
        refine ⟨_, _, _, _, tvs.take r.toNat ++ [.ref e4] ++ tvs.drop r.toNat, ts.take r.toNat ++ [(ya, yb, lg)] ++ ts.drop r.toNat, es ++ [(ya, yb, lg)], rfl, ?_, perm_insert _ pm, ?_, ?_, upd_same, ?_, X16.sm.put nt0, (X16.dk.put ntd).mono (by omega)⟩
        · have e5 : (inOrd ls js).take (i + 1 + 1) = (inOrd ls js).take (i + 1) ++ [xk] := by
            rw [List.take_add_one, ok']
            rfl
          rw [e5]
          obtain ⟨la, ea⟩ := List.getElem?_eq_some_iff.mp oa
          obtain ⟨lk, ek'⟩ := List.getElem?_eq_some_iff.mp ok'
          refine Grown.leaf (a := xa) (k := lg) hG ?_ ?_ ?_ (by omega) (by omega)
          · exact List.mem_take_iff_getElem.mpr ⟨at', by omega, ea⟩
          · intro hm
            obtain ⟨j, hj, ej⟩ := List.mem_take_iff_getElem.mp hm
            have := (List.getElem_inj ond).mp (ej.trans ek'.symm)
            omega
          · rcases hab with ⟨z1, z2⟩ | ⟨z1, z2⟩ <;> rw [z1, z2]
            · exact .inl rfl
            · exact .inr rfl
        · rw [upd_ne ot]
          exact ho16
        · unfold NamesAt
          rw [upd_ne ntp]
          exact X16.nm
        · have := DtAll.ins r.toNat (DtAll.keep tk X16.al) (v := .ref e4) (d := tieD (ya, yb, lg)) (.tup (tk.tup _ _ upd_same) (.cons (.str _) (.cons (.str _) (.cons (.int _) .nil))))
          rw [List.map_append, List.map_append, List.map_take, List.map_drop]
          exact this
      · obtain ⟨x7, x9, x10, x11, tvs, ts, es, rfl, hG, pm, ho0, X0⟩ := hP
        refine ⟨_, _, _, _, tvs, ts, es, rfl, ?_, pm, X0.mono (by omega)⟩
        rwa [List.take_of_length_le (by omega)] at hG
    · obtain ⟨x7, x9, x10, x11, tvs, ts, es, rfl, hG, pm, X0⟩ := hM
      refine ⟨_, rfl, p, _, rfl, SqL.of X0.nm, fun q1 o1 nq1 od1 => ?_⟩
      have X6 := X0.new (o := .frz o1 (.tup ((ls.map S).map V.str))) nq1
      refine ⟨_, rfl, .inl ⟨t, tvs, rfl, SqL.of X6.tt, fun q2 nq2 => ?_⟩⟩
      have X7 := X6.new (o := .tup tvs) nq2
      refine ⟨(by show 2 ≤ sizeLine; decide), fun q3 nq3 => ?_⟩
      have X8 := X7.new (o := .tup [.ref q1, .ref q2]) nq3
      have it : IsTree ls ts := ⟨inOrd ls js, es, hG, pos.symm, pm⟩
      have plne : ls ≠ [] := fun z => by
        have := it.len
        rw [z] at this
        simp at this
      have hz := ((TK.new nq2).trans (TK.new (o := .tup [.ref q1, .ref q2]) nq3)).frz _ _ _ (upd_same (H := _) (a := q1) (o := .frz o1 (.tup ((ls.map S).map V.str))))
      exact q _ q3 ls ts it ok (by omega) (.tup upd_same (.cons (.tupZ rfl plne od1 hz) (.cons (.tup ((TK.new nq3).tup _ _ upd_same) X8.al) .nil))) ⟨q3, q1, q2, o1, rfl, upd_same, od1, hz⟩ X8.sm X8.dk
end
end Far

namespace Far
open PySem
open SX (S)
/-! ### ways in a tree -/
def Adj (ts : List Tie) (u v : Nm) (k : Int) : Prop := (u, v, k) ∈ ts ∨ (v, u, k) ∈ ts
theorem Adj.symm {ts : List Tie} {u v : Nm} {k : Int} (h : Adj ts u v k) : Adj ts v u k := h.elim .inr .inl
theorem Adj.perm {ts ts' : List Tie} {u v : Nm} {k : Int} (p : ts.Perm ts') (h : Adj ts u v k) : Adj ts' u v k := h.elim (fun h => .inl (p.mem_iff.mp h)) fun h => .inr (p.mem_iff.mp h)
/-- from u to v, no place twice: the places, the length -/
inductive Way (ts : List Tie) (u : Nm) : Nm → List Nm → Int → Prop
  | nil : Way ts u u [u] 0
  | snoc {v w : Nm} {p : List Nm} {L k : Int} : Way ts u v p L → Adj ts v w k → w ∉ p → Way ts u w (p ++ [w]) (L + k)
theorem Way.perm {ts ts' : List Tie} (q : ts.Perm ts') {u v : Nm} {p : List Nm} {L : Int} (h : Way ts u v p L) : Way ts' u v p L := by
  induction h with
  | nil => exact .nil
  | snoc _ ha hn ih => exact .snoc ih (ha.perm q) hn
theorem Way.last {ts : List Tie} {u v : Nm} {p : List Nm} {L : Int} (h : Way ts u v p L) : ∃ q, p = q ++ [v] := by
  cases h with
  | nil => exact ⟨[], rfl⟩
  | snoc _ _ _ => exact ⟨_, rfl⟩
theorem Way.mem {ts : List Tie} {u v : Nm} {p : List Nm} {L : Int} (h : Way ts u v p L) : v ∈ p := by
  obtain ⟨q, rfl⟩ := h.last
  simp
theorem Way.first {ts : List Tie} {u v : Nm} {p : List Nm} {L : Int} (h : Way ts u v p L) : ∃ q, p = u :: q := by
  induction h with
  | nil => exact ⟨[], rfl⟩
  | snoc _ _ _ ih =>
    obtain ⟨q, rfl⟩ := ih
    exact ⟨q ++ [_], rfl⟩
theorem Way.nodup {ts : List Tie} {u v : Nm} {p : List Nm} {L : Int} (h : Way ts u v p L) : p.Nodup := by
  induction h with
  | nil => simp
  | snoc _ _ hn ih => exact nd_snoc' ih hn
theorem Way.inside {ts : List Tie} {pl : List Nm} (ht : ∀ e ∈ ts, e.1 ∈ pl ∧ e.2.1 ∈ pl) {u v : Nm} {p : List Nm} {L : Int} (h : Way ts u v p L) (hu : u ∈ pl) : ∀ x ∈ p, x ∈ pl := by
  induction h with
  | nil =>
    intro x hx
    rw [List.mem_singleton.mp hx]
    exact hu
  | snoc _ ha _ ih =>
    intro x hx
    rcases List.mem_append.mp hx with z | z
    · exact ih x z
    · rw [List.mem_singleton.mp z]
      rcases ha with h | h
      · exact (ht _ h).2
      · exact (ht _ h).1
/-- a place on the way is come to by a way of its own -/
theorem Way.upto {ts : List Tie} {u v x : Nm} {p : List Nm} {L : Int} (h : Way ts u v p L) (hx : x ∈ p) : ∃ q M, Way ts u x q M ∧ ∀ y ∈ q, y ∈ p := by
  induction h with
  | nil =>
    rw [List.mem_singleton.mp hx]
    exact ⟨_, _, .nil, fun _ h => h⟩
  | snoc h1 ha hn ih =>
    rcases List.mem_append.mp hx with z | z
    · obtain ⟨q, M, hq, hs⟩ := ih z
      exact ⟨q, M, hq, fun y hy => List.mem_append_left _ (hs y hy)⟩
    · rw [List.mem_singleton.mp z]
      exact ⟨_, _, .snoc h1 ha hn, fun _ h => h⟩
section leaf
variable {os : List Nm} {es : List Tie} {a b : Nm} {k : Int} {e0 : Tie}
theorem adj_new (hb : ∀ e ∈ es, e.1 ≠ b ∧ e.2.1 ≠ b) (ab : a ≠ b) (he : e0 = (a, b, k) ∨ e0 = (b, a, k)) {x y : Nm} {m : Int} (h : Adj (es ++ [e0]) x y m) :
    (Adj es x y m ∧ x ≠ b ∧ y ≠ b) ∨ (x = a ∧ y = b ∧ m = k) ∨ (x = b ∧ y = a ∧ m = k) := by
  rcases h with h | h <;> rcases List.mem_append.mp h with z | z
  · exact .inl ⟨.inl z, hb _ z⟩
  · have z := List.mem_singleton.mp z
    rcases he with e | e <;> rw [e] at z <;> cases z
    · exact .inr (.inl ⟨rfl, rfl, rfl⟩)
    · exact .inr (.inr ⟨rfl, rfl, rfl⟩)
  · exact .inl ⟨.inr z, (hb _ z).2, (hb _ z).1⟩
  · have z := List.mem_singleton.mp z
    rcases he with e | e <;> rw [e] at z <;> cases z
    · exact .inr (.inr ⟨rfl, rfl, rfl⟩)
    · exact .inr (.inl ⟨rfl, rfl, rfl⟩)
theorem way_old (hb : ∀ e ∈ es, e.1 ≠ b ∧ e.2.1 ≠ b) (ab : a ≠ b) (he : e0 = (a, b, k) ∨ e0 = (b, a, k)) {u v : Nm} {p : List Nm} {L : Int} (h : Way (es ++ [e0]) u v p L) (hu : u ≠ b) :
    (v ≠ b ∧ b ∉ p ∧ Way es u v p L) ∨ (v = b ∧ ∃ q M, p = q ++ [b] ∧ L = M + k ∧ Way es u a q M) := by
  induction h with
  | nil => exact .inl ⟨hu, fun z => hu (List.mem_singleton.mp z).symm, .nil⟩
  | @snoc v w p L m h1 ha hn ih =>
    rcases ih with ⟨hv, hbp, hw⟩ | ⟨hv, q, M, hp, _, hq⟩
    · rcases adj_new hb ab he ha with ⟨ha, _, wb⟩ | ⟨e1, e2, e3⟩ | ⟨e1, _, _⟩
      · refine .inl ⟨wb, fun z => ?_, .snoc hw ha hn⟩
        rcases List.mem_append.mp z with z | z
        · exact hbp z
        · exact wb (List.mem_singleton.mp z).symm
      · subst e1 e2 e3
        exact .inr ⟨rfl, p, L, rfl, rfl, hw⟩
      · exact absurd e1 hv
    · rcases adj_new hb ab he ha with ⟨_, vb, _⟩ | ⟨e1, _, _⟩ | ⟨_, e2, _⟩
      · exact absurd hv vb
      · exact absurd (e1.symm.trans hv) ab
      · refine absurd ?_ hn
        rw [e2, hp]
        exact List.mem_append_left _ hq.mem
theorem way_from (hb : ∀ e ∈ es, e.1 ≠ b ∧ e.2.1 ≠ b) (ab : a ≠ b) (he : e0 = (a, b, k) ∨ e0 = (b, a, k)) {v : Nm} {p : List Nm} {L : Int} (h : Way (es ++ [e0]) b v p L) :
    (v = b ∧ p = [b] ∧ L = 0) ∨ (v ≠ b ∧ ∃ q M, p = b :: q ∧ L = k + M ∧ Way es a v q M) := by
  induction h with
  | nil => exact .inl ⟨rfl, rfl, rfl⟩
  | @snoc v w p L m h1 ha hn ih =>
    rcases ih with ⟨hv, hp, hL⟩ | ⟨hv, q, M, hp, hL, hq⟩
    · rcases adj_new hb ab he ha with ⟨_, vb, _⟩ | ⟨e1, _, _⟩ | ⟨_, e2, e3⟩
      · exact absurd hv vb
      · exact absurd (e1.symm.trans hv) ab
      · subst e2 e3 hp hL
        exact .inr ⟨ab, [w], 0, rfl, by omega, .nil⟩
    · have wb : w ≠ b := fun z => hn (by rw [z, hp]; simp)
      rcases adj_new hb ab he ha with ⟨ha, _, _⟩ | ⟨_, e2, _⟩ | ⟨e1, _, _⟩
      · subst hp hL
        exact .inr ⟨wb, q ++ [w], M + m, rfl, by omega, .snoc hq ha fun z => hn (List.mem_cons.mpr (.inr z))⟩
      · exact absurd e2 wb
      · exact absurd e1 hv
end leaf
theorem Grown.one_way {os : List Nm} {es : List Tie} (g : Grown os es) : ∀ {u v : Nm} {p q : List Nm} {L M : Int}, Way es u v p L → Way es u v q M → p = q ∧ L = M := by
  induction g with
  | one a =>
    intro u v p q L M h1 h2
    cases h1 with
    | nil =>
      cases h2 with
      | nil => exact ⟨rfl, rfl⟩
      | snoc _ ha _ => rcases ha with h | h <;> cases h
    | snoc _ ha _ => rcases ha with h | h <;> cases h
  | @leaf os es a b k e0 g ha hbn he k1 k2 ih =>
    intro u v p q L M h1 h2
    have hb : ∀ e ∈ es, e.1 ≠ b ∧ e.2.1 ≠ b := fun e hm => by
      obtain ⟨i1, i2, _⟩ := g.ties e hm
      exact ⟨fun z => hbn (z ▸ i1), fun z => hbn (z ▸ i2)⟩
    have ab : a ≠ b := fun z => hbn (z ▸ ha)
    by_cases hu : u = b
    · subst hu
      rcases way_from hb ab he h1 with ⟨v1, p1, l1⟩ | ⟨v1, p1, l1, e1, e2, w1⟩ <;> rcases way_from hb ab he h2 with ⟨v2, p2, l2⟩ | ⟨v2, p2, l2, e3, e4, w2⟩
      · exact ⟨p1.trans p2.symm, l1.trans l2.symm⟩
      · exact absurd v1 v2
      · exact absurd v2 v1
      · obtain ⟨z1, z2⟩ := ih w1 w2
        rw [e1, e2, e3, e4, z1, z2]
        exact ⟨rfl, rfl⟩
    · rcases way_old hb ab he h1 hu with ⟨v1, _, w1⟩ | ⟨v1, p1, l1, e1, e2, w1⟩ <;> rcases way_old hb ab he h2 hu with ⟨v2, _, w2⟩ | ⟨v2, p2, l2, e3, e4, w2⟩
      · exact ih w1 w2
      · exact absurd v2 v1
      · exact absurd v1 v2
      · obtain ⟨z1, z2⟩ := ih w1 w2
        rw [e1, e2, e3, e4, z1, z2]
        exact ⟨rfl, rfl⟩
theorem IsTree.one_way {pl : List Nm} {ts : List Tie} (h : IsTree pl ts) {u v : Nm} {p q : List Nm} {L M : Int} (h1 : Way ts u v p L) (h2 : Way ts u v q M) : p = q ∧ L = M := by
  obtain ⟨os, es, g, _, p2⟩ := h
  exact g.one_way (h1.perm p2) (h2.perm p2)
/-- what is closed by ties and holds one place holds all -/
theorem Grown.all_of {os : List Nm} {es : List Tie} (g : Grown os es) : ∀ {F : Nm → Prop}, (∃ u ∈ os, F u) → (∀ x y k, F x → Adj es x y k → F y) → ∀ v ∈ os, F v := by
  induction g with
  | one a =>
    intro F ⟨u, hu, hF⟩ _ v hv
    rw [List.mem_singleton.mp hv, ← List.mem_singleton.mp hu]
    exact hF
  | @leaf os es a b k e0 g ha hbn he k1 k2 ih =>
    intro F ⟨u, hu, hF⟩ cl v hv
    have cab : Adj (es ++ [e0]) a b k := by
      rcases he with e | e
      · exact .inl (by rw [e]; simp)
      · exact .inr (by rw [e]; simp)
    have cl' : ∀ x y m, F x → Adj es x y m → F y := fun x y m hx h => cl x y m hx (h.elim (fun z => .inl (List.mem_append_left _ z)) fun z => .inr (List.mem_append_left _ z))
    have start : ∃ w ∈ os, F w := by
      rcases List.mem_append.mp hu with z | z
      · exact ⟨u, z, hF⟩
      · rw [List.mem_singleton.mp z] at hF
        exact ⟨a, ha, cl b a k hF cab.symm⟩
    have old := ih start cl'
    rcases List.mem_append.mp hv with z | z
    · exact old v z
    · rw [List.mem_singleton.mp z]
      exact cl a b k (old a ha) cab
theorem IsTree.all_of {pl : List Nm} {ts : List Tie} (h : IsTree pl ts) {F : Nm → Prop} {u : Nm} (hu : u ∈ pl) (hF : F u) (cl : ∀ x y k, F x → Adj ts x y k → F y) : ∀ v ∈ pl, F v := by
  obtain ⟨os, es, g, p1, p2⟩ := h
  intro v hv
  exact g.all_of ⟨u, p1.mem_iff.mp hu, hF⟩ (fun x y k hx ha => cl x y k hx (ha.perm p2.symm)) v (p1.mem_iff.mp hv)
theorem IsTree.way {pl : List Nm} {ts : List Tie} (h : IsTree pl ts) {u v : Nm} (hu : u ∈ pl) (hv : v ∈ pl) : ∃ p L, Way ts u v p L := by
  refine h.all_of (F := fun v => ∃ p L, Way ts u v p L) hu ⟨_, _, .nil⟩ (fun x y k ⟨p, L, hw⟩ ha => ?_) v hv
  by_cases hy : y ∈ p
  · obtain ⟨q, M, hq, _⟩ := hw.upto hy
    exact ⟨q, M, hq⟩
  · exact ⟨_, _, .snoc hw ha hy⟩
open Classical in
/-- the way and its length -/
noncomputable def wayOf (ts : List Tie) (u v : Nm) : List Nm × Int := if h : ∃ x : List Nm × Int, Way ts u v x.1 x.2 then h.choose else ([], 0)
noncomputable def path (ts : List Tie) (u v : Nm) : List Nm := (wayOf ts u v).1
noncomputable def dist (ts : List Tie) (u v : Nm) : Int := (wayOf ts u v).2
theorem IsTree.is_way {pl : List Nm} {ts : List Tie} (h : IsTree pl ts) {u v : Nm} {p : List Nm} {L : Int} (w : Way ts u v p L) : path ts u v = p ∧ dist ts u v = L := by
  have hx : ∃ x : List Nm × Int, Way ts u v x.1 x.2 := ⟨(p, L), w⟩
  unfold path dist wayOf
  rw [dif_pos hx]
  exact h.one_way hx.choose_spec w
theorem IsTree.the_way {pl : List Nm} {ts : List Tie} (h : IsTree pl ts) {u v : Nm} (hu : u ∈ pl) (hv : v ∈ pl) : Way ts u v (path ts u v) (dist ts u v) := by
  obtain ⟨p, L, w⟩ := h.way hu hv
  obtain ⟨e1, e2⟩ := h.is_way w
  rw [e1, e2]
  exact w
/-- the way back -/
theorem Way.cons {ts : List Tie} {u v w : Nm} {p : List Nm} {L k : Int} (ha : Adj ts w u k) (h : Way ts u v p L) (hn : w ∉ p) : Way ts w v (w :: p) (k + L) := by
  induction h with
  | nil =>
    have := Way.snoc (ts := ts) (u := w) .nil ha (by simpa using fun z => hn (by rw [z]; simp))
    simpa using this
  | @snoc v x p L m h1 hb hx ih =>
    have hn1 : w ∉ p := fun z => hn (List.mem_append_left _ z)
    have hxw : x ∉ w :: p := fun z => by
      rcases List.mem_cons.mp z with z | z
      · exact hn (by rw [z]; simp)
      · exact hx z
    have := Way.snoc (ih hn1) hb hxw
    rw [← Int.add_assoc]
    exact this
theorem Way.rev {ts : List Tie} {u v : Nm} {p : List Nm} {L : Int} (h : Way ts u v p L) : Way ts v u p.reverse L := by
  induction h with
  | nil => exact .nil
  | @snoc v w p L k h1 ha hn ih =>
    rw [List.reverse_append]
    have := Way.cons ha.symm ih (fun z => hn (List.mem_reverse.mp z))
    rw [Int.add_comm L k]
    exact this
theorem IsTree.dist_symm {pl : List Nm} {ts : List Tie} (h : IsTree pl ts) {u v : Nm} (hu : u ∈ pl) (hv : v ∈ pl) : dist ts u v = dist ts v u ∧ path ts v u = (path ts u v).reverse := by
  obtain ⟨e1, e2⟩ := h.is_way (h.the_way hu hv).rev
  exact ⟨e2.symm, e1⟩
theorem IsTree.dist_self {pl : List Nm} {ts : List Tie} (h : IsTree pl ts) (u : Nm) : dist ts u u = 0 ∧ path ts u u = [u] := by
  obtain ⟨e1, e2⟩ := h.is_way (u := u) .nil
  exact ⟨e2, e1⟩
theorem Way.nonneg {ts : List Tie} (hk : ∀ e ∈ ts, 1 ≤ e.2.2) {u v : Nm} {p : List Nm} {L : Int} (h : Way ts u v p L) : 0 ≤ L ∧ (p.length : Int) ≤ L + 1 := by
  induction h with
  | nil => simp
  | @snoc v w p L k _ ha _ ih =>
    have h1 : 1 ≤ k := ha.elim (fun z => hk _ z) fun z => hk _ z
    rw [List.length_append, List.length_singleton]
    omega
section
open PySem.Spec PyProof.Rows L2
/-! ### dicts by places -/
def dkm (fs : List Nm) (f : Nm → V) : List (Key × V) := fs.map fun l => (Sum.inr (S l), f l)
theorem dkm_get {f : Nm → V} {x : Nm} : ∀ {fs : List Nm}, x ∈ fs → valV (dkm fs f) (Sum.inr (S x)) = some (f x)
  | [], h => by simp at h
  | a :: r, h => by
    show valV ((Sum.inr (S a), f a) :: dkm r f) _ = _
    by_cases e : a = x
    · subst e
      exact valV_pos rfl
    · rw [valV_neg (fun z => e (SX.S_inj (Sum.inr.inj z)))]
      refine dkm_get ?_
      rcases List.mem_cons.mp h with z | z
      · exact absurd z.symm e
      · exact z
theorem dkm_no {f : Nm → V} {x : Nm} : ∀ {fs : List Nm}, x ∉ fs → valV (dkm fs f) (Sum.inr (S x)) = none
  | [], _ => rfl
  | a :: r, h => by
    show valV ((Sum.inr (S a), f a) :: dkm r f) _ = _
    rw [valV_neg (fun z => h (List.mem_cons.mpr (.inl (SX.S_inj (Sum.inr.inj z)).symm)))]
    exact dkm_no fun z => h (List.mem_cons.mpr (.inr z))
theorem dkm_cong {f g : Nm → V} {fs : List Nm} (h : ∀ x ∈ fs, f x = g x) : dkm fs f = dkm fs g := List.map_congr_left fun a ha => by rw [h a ha]
theorem dkm_new {f : Nm → V} {x : Nm} {v : V} {fs : List Nm} (h : x ∉ fs) : putK (dkm fs f) (Sum.inr (S x)) v = dkm (fs ++ [x]) (fun z => if z = x then v else f z) := by
  rw [putK_new _ (dkm_no h)]
  unfold dkm
  rw [List.map_append]
  have e : fs.map (fun l => ((Sum.inr (S l) : Key), f l)) = fs.map (fun l => ((Sum.inr (S l) : Key), if l = x then v else f l)) := List.map_congr_left fun a ha => by rw [if_neg (fun (z : a = x) => h (z ▸ ha))]
  rw [e]
  show _ = _ ++ [((Sum.inr (S x) : Key), if x = x then v else f x)]
  rw [if_pos rfl]
theorem dkm_some {f : Nm → V} {x : Nm} {fs : List Nm} : (valV (dkm fs f) (Sum.inr (S x))).isSome = decide (x ∈ fs) := by
  by_cases h : x ∈ fs
  · rw [dkm_get h, decide_eq_true h]
    rfl
  · rw [dkm_no h, decide_eq_false h]
    rfl
theorem tkD {H : Hp} {D : Addr} {kvs : List (Key × V)} {o : HO} (h : H D = some (.dK kvs)) : TK H (upd H D o) :=
  ⟨fun b xs z => by rw [upd_ne (ne_of z h (by intro q; cases q))]; exact z, fun b u xs z => by rw [upd_ne (ne_of z h (by intro q; cases q))]; exact z⟩
/-! ### a walk through a tree: fs come to, st to be gone on from, ex being gone on from -/
structure Wk (pl : List Nm) (ts : List Tie) (u : Nm) (fs st : List Nm) (prev : Nm → Nm) (ex : Nm → Prop) : Prop where
  nd : fs.Nodup
  sub : ∀ x ∈ fs, x ∈ pl
  sti : ∀ x ∈ st, x ∈ fs
  hu : u ∈ fs
  cl : ∀ x ∈ fs, ∀ y ∈ path ts u x, y ∈ fs
  pr : ∀ x ∈ fs, x ≠ u → prev x ∈ fs ∧ path ts u x = path ts u (prev x) ++ [x]
  done : ∀ x ∈ fs, x ∉ st → ¬ ex x → ∀ y k, Adj ts x y k → y ∈ fs
theorem Wk.start {pl : List Nm} {ts : List Tie} (h : IsTree pl ts) {u : Nm} (hu : u ∈ pl) : Wk pl ts u [u] [u] (fun _ => u) (fun _ => False) := by
  refine ⟨by simp, fun x hx => ?_, fun x hx => hx, by simp, fun x hx => ?_, fun x hx n => ?_, fun x hx n => absurd hx n⟩
  · rw [List.mem_singleton.mp hx]
    exact hu
  · rw [List.mem_singleton.mp hx, (h.dist_self u).2]
    exact fun y hy => hy
  · exact absurd (List.mem_singleton.mp hx) n
theorem Wk.pop {pl : List Nm} {ts : List Tie} {u h : Nm} {fs st : List Nm} {prev : Nm → Nm} (w : Wk pl ts u fs (st ++ [h]) prev (fun _ => False)) : h ∈ fs ∧ Wk pl ts u fs st prev (fun x => x = h) := by
  refine ⟨w.sti h (by simp), w.nd, w.sub, fun x hx => w.sti x (List.mem_append_left _ hx), w.hu, w.cl, w.pr, fun x hx n ne => w.done x hx (fun z => ?_) (fun z => z)⟩
  rcases List.mem_append.mp z with z | z
  · exact n z
  · exact ne (List.mem_singleton.mp z)
theorem Wk.push {pl : List Nm} {ts : List Tie} (tr : IsTree pl ts) {u h y : Nm} {k : Int} {fs st : List Nm} {prev : Nm → Nm} {ex : Nm → Prop} (w : Wk pl ts u fs st prev ex) (hh : h ∈ fs) (ha : Adj ts h y k) (hy : y ∉ fs) :
    dist ts u y = dist ts u h + k ∧ Wk pl ts u (fs ++ [y]) (st ++ [y]) (fun z => if z = y then h else prev z) ex := by
  have wh := tr.the_way (w.sub u w.hu) (w.sub h hh)
  have wy := Way.snoc wh ha fun z => hy (w.cl h hh y z)
  obtain ⟨e1, e2⟩ := tr.is_way wy
  have yp : y ∈ pl := by
    rcases ha with z | z
    · exact (tr.ties _ z).2.1
    · exact (tr.ties _ z).1
  refine ⟨e2, nd_snoc' w.nd hy, fun x hx => ?_, fun x hx => ?_, List.mem_append_left _ w.hu, fun x hx z hz => ?_, fun x hx n => ?_, fun x hx n ne z m hz => ?_⟩
  · rcases List.mem_append.mp hx with z | z
    · exact w.sub x z
    · rw [List.mem_singleton.mp z]
      exact yp
  · rcases List.mem_append.mp hx with z | z
    · exact List.mem_append_left _ (w.sti x z)
    · exact List.mem_append_right _ z
  · rcases List.mem_append.mp hx with q | q
    · exact List.mem_append_left _ (w.cl x q z hz)
    · rw [List.mem_singleton.mp q, e1] at hz
      rcases List.mem_append.mp hz with r | r
      · exact List.mem_append_left _ (w.cl h hh z r)
      · exact List.mem_append_right _ r
  · rcases List.mem_append.mp hx with q | q
    · have xy : x ≠ y := fun e => hy (e ▸ q)
      show (if x = y then h else prev x) ∈ fs ++ [y] ∧ path ts u x = path ts u (if x = y then h else prev x) ++ [x]
      rw [if_neg xy]
      exact ⟨List.mem_append_left _ (w.pr x q n).1, (w.pr x q n).2⟩
    · have xy := List.mem_singleton.mp q
      show (if x = y then h else prev x) ∈ fs ++ [y] ∧ path ts u x = path ts u (if x = y then h else prev x) ++ [x]
      rw [if_pos xy, xy]
      exact ⟨List.mem_append_left _ hh, e1⟩
  · rcases List.mem_append.mp hx with q | q
    · exact List.mem_append_left _ (w.done x q (fun r => n (List.mem_append_left _ r)) ne z m hz)
    · exact absurd (List.mem_append_right _ q) n
theorem Wk.shut {pl : List Nm} {ts : List Tie} {u h : Nm} {fs st : List Nm} {prev : Nm → Nm} (w : Wk pl ts u fs st prev (fun x => x = h)) (hd : ∀ y k, Adj ts h y k → y ∈ fs) : Wk pl ts u fs st prev (fun _ => False) :=
  ⟨w.nd, w.sub, w.sti, w.hu, w.cl, w.pr, fun x hx n _ y k ha => by
    by_cases e : x = h
    · rw [e] at ha
      exact hd y k ha
    · exact w.done x hx n e y k ha⟩
theorem Wk.all {pl : List Nm} {ts : List Tie} (tr : IsTree pl ts) {u : Nm} {fs : List Nm} {prev : Nm → Nm} (w : Wk pl ts u fs [] prev (fun _ => False)) : ∀ x, x ∈ fs ↔ x ∈ pl := fun x =>
  ⟨w.sub x, fun hx => tr.all_of (F := fun z => z ∈ fs) (w.sub u w.hu) w.hu (fun a b k ha hab => w.done a ha (by simp) (fun z => z) b k hab) x hx⟩
structure Fine (pl : List Nm) (ts : List Tie) : Prop where
  tree : IsTree pl ts
  ok : ∀ l ∈ pl, NameOk l
  len : pl.length ≤ 1000
theorem Fine.okT {pl : List Nm} {ts : List Tie} (F : Fine pl ts) {e : Tie} (he : e ∈ ts) : NameOk e.1 ∧ NameOk e.2.1 := by
  obtain ⟨i1, i2, _⟩ := F.tree.ties e he
  exact ⟨F.ok _ i1, F.ok _ i2⟩
theorem Fine.ne {pl : List Nm} {ts : List Tie} (F : Fine pl ts) : pl ≠ [] := fun z => by
  have := F.tree.len
  rw [z] at this
  simp at this
theorem dt_pair {H : Hp} {v : V} {d e : PyData} (h : Dt H v (.tuple [d, e])) (ne : ∀ l : Nm, e ≠ strD l) : ∃ (a : Addr) (x y : V), v = .ref a ∧ H a = some (.tup [x, y]) ∧ Dt H x d ∧ Dt H y e := by
  cases h with
  | tup ha hs =>
    cases hs with
    | cons h1 hr =>
      cases hr with
      | cons h2 hn =>
        cases hn
        exact ⟨_, _, _, rfl, ha, h1, h2⟩
  | @tupZ a pl _ o e _ _ _ =>
    exfalso
    cases pl with
    | nil => cases e
    | cons l r =>
      cases r with
      | nil => cases e
      | cons l2 r2 => exact ne l2 (List.cons.inj (List.cons.inj e).2).1
theorem dt_tup {H : Hp} {v : V} {ds : List PyData} (h : Dt H v (.tuple ds)) (ne : ds ≠ [] → ∃ d ∈ ds, ∀ l : Nm, d ≠ strD l) : ∃ (a : Addr) (xs : List V), v = .ref a ∧ H a = some (.tup xs) ∧ DtAll H xs ds := by
  cases h with
  | tup ha hs => exact ⟨_, _, rfl, ha, hs⟩
  | @tupZ a pl _ o e n _ _ =>
    exfalso
    obtain ⟨d, hd, no⟩ := ne (by rw [e]; simpa using n)
    rw [e] at hd
    obtain ⟨l, _, z⟩ := List.mem_map.mp hd
    exact no l z.symm
theorem dt_names {H : Hp} {v : V} {pl : List Nm} (h : Dt H v (.tuple (pl.map strD))) : ∃ a : Addr, v = .ref a ∧ TupAt H a ((pl.map S).map V.str) := by
  have inj : ∀ {p q : List Nm}, p.map strD = q.map strD → p = q := by
    intro p
    induction p with
    | nil =>
      intro q e
      cases q with
      | nil => rfl
      | cons _ _ => cases e
    | cons a r ih =>
      intro q e
      cases q with
      | nil => cases e
      | cons b t =>
        have e' := List.cons.inj e
        have h1 : S a = S b := PyData.str.inj e'.1
        rw [SX.S_inj h1, ih e'.2]
  generalize hd : pl.map strD = ds at h
  cases h with
  | tup ha hs =>
    subst hd
    rw [DtAll.strs hs] at ha
    exact ⟨_, rfl, .inl ha⟩
  | @tupZ a pl2 _ o e n d ha =>
    rw [← inj (hd.trans e)] at ha
    exact ⟨_, rfl, .inr ⟨o, d, ha⟩⟩
theorem tie_no (e : Tie) (l : Nm) : tieD e ≠ strD l := fun z => nomatch z
/-- a tree in the heap: its parts -/
theorem dt_tree {H : Hp} {v : V} {pl : List Nm} {ts : List Tie} (h : Dt H v (treeD pl ts)) : ∃ (t a b : Addr) (vs : List V), v = .ref t ∧ H t = some (.tup [.ref a, .ref b]) ∧ TupAt H a ((pl.map S).map V.str) ∧ H b = some (.tup vs) ∧ DtAll H vs (ts.map tieD) := by
  obtain ⟨t, x, y, rfl, ht, hx, hy⟩ := dt_pair h fun l z => nomatch z
  obtain ⟨a, rfl, ha⟩ := dt_names hx
  obtain ⟨b, vs, rfl, hb, hv⟩ := dt_tup hy fun n => by
    cases ts with
    | nil => exact absurd rfl n
    | cons e r => exact ⟨tieD e, List.mem_cons_self .., tie_no e⟩
  exact ⟨t, a, b, vs, rfl, ht, ha, hb, hv⟩
theorem dt_tie {H : Hp} {v : V} {e : Tie} (h : Dt H v (tieD e)) : ∃ t : Addr, v = .ref t ∧ H t = some (.tup [.str (S e.1), .str (S e.2.1), .int e.2.2]) := by
  obtain ⟨t, xs, rfl, ht, hs⟩ := dt_tup h fun _ => ⟨.int e.2.2, by simp [tieD], fun l z => nomatch z⟩
  cases hs with
  | cons h1 hr =>
    cases hr with
    | cons h2 hr =>
      cases hr with
      | cons h3 hr =>
        cases hr
        cases h1
        cases h2
        cases h3
        exact ⟨t, rfl, ht⟩
end
end Far

namespace Far
open PySem PySem.Spec PyProof.Rows L2
section
variable {X : Cx}
/-- name = {k: v for ..} on one line, the name a local one -/
theorem ps_setDc {i : Nat} {y : Str} {py spos pos : Pos} {kx vx tg iter : Expr} {ifs : List Expr} {scope : Scope} {own : List (Str × Nat)} {wi : TI} {g : TG} {tt : TT} {tk tv : TE}
    (hc : X.calm = true) (hN : X.N.Nodup) (hy : X.N[i]? = some y) (hyl : X.env.scope.names.lookup y = some .local) (hsw : swapsWith (.DictComp kx vx [⟨tg, iter, ifs, 0⟩] scope pos) (some (.Name y py)) spos.line X.env = pure true)
    (hi : PI X tg iter wi) (ok : BlkOk X.N X.env.scope scope own)
    (hg : ∀ (s : Shared) (H : Hp) (C : Addr) (l : List (Str × Addr)) (fp : List Addr), PG (X.blk s H scope (compEnvC scope l C X.env) fp) tg g)
    (ht : ∀ (s : Shared) (H : Hp) (C : Addr) (l : List (Str × Addr)) (fp : List Addr), PTs (X.blk s H scope (compEnvC scope l C X.env) fp) ifs tt)
    (hk : ∀ (s : Shared) (H : Hp) (C : Addr) (l : List (Str × Addr)) (fp : List Addr), PE (X.blk s H scope (compEnvC scope l C X.env) fp) kx tk)
    (hv : ∀ (s : Shared) (H : Hp) (C : Addr) (l : List (Str × Addr)) (fp : List Addr), PE (X.blk s H scope (compEnvC scope l C X.env) fp) vx tv)
    (hs : ∀ x, foldedSetIterable iter X.env x = pure x := by intro _; rfl) : PS X (.Assign [.Name y py] (.DictComp kx vx [⟨tg, iter, ifs, 0⟩] scope pos) spos) (tAsg (tDc wi g tt tk tv (own.map (·.2))) (gName i)) := by
  refine ⟨fun pins s σ H D I h => ?_⟩
  replace h : tDc wi g tt tk tv (own.map (·.2)) σ H (fun v H1 => gName i v σ H1 D.nx) := h
  rw [exec_Assign_Name_used _ _ _ _ hsw]
  refine wpAny_bind (wpAny_standAt (wpAny_bind ?_))
  show wpAny _ X.A (do let _ ← comprehension (.DictComp kx vx [⟨tg, iter, ifs, 0⟩] scope pos) scope X.env (firstIterPos [⟨tg, iter, ifs, 0⟩] pos) newDict false (eval iter X.env) (some (assign (.Name y py) X.env))) _ _ s
  refine wpAny_bind (thn (dc_core (Qf := fun _ s1 => SP X pins D .next s1) hc hN I hi ok hg ht hk hv hs h fun L C s1 m H1 I1 q hn f => ?_) fun _ s1 z => wpAny_pure (wpAny_pure z))
  show wpAny _ _ (assign (.Name y py) X.env (.ref L)) _ _ _
  obtain ⟨f0, f1, f2, f3, f4, f5⟩ := f
  refine wpAny_assign_Name (store_ok2 (v := V.ref L) I1 hN hy (.inl hyl) rfl (fun s2 I2 ⟨a, sb, ha⟩ => ⟨m, hn.sameBut sb ?_, fun h3 sb3 => ?_⟩) (.inr hyl))
  · rcases ha with z | z
    · exact z ▸ f1
    · exact fun e => f4 y a z e.symm
  · exact ⟨_, H1, I2.turned (t' := s2.toks) (fun b o hb e => (sb3.2 b hb).trans e) f0 f1 f3 f4 f5, q⟩
theorem swD_true {kx vx : Expr} {gs : List Comprehension} {scope : Scope} {pos py : Pos} {y : Str} {l : Nat} {env : Env} (hk : env.scope.kind = .function) (hy : env.scope.names.lookup y = some .local) (hl : (py.line == pos.line) = true)
    (ha : (scope.names.any fun (n, k) => n == y && (k == .local || k == .cell)) = false) : swapsWith (.DictComp kx vx gs scope pos) (some (.Name y py)) l env = pure true := by
  have e1 : env.kindOf y = some .local := hy
  have e2 : env.blockKind = .function := by unfold Env.blockKind; rw [hk]; rfl
  unfold swapsWith
  simp only [e2, e1, ha, Expr.pos, hl]
  rfl
end
end Far

namespace Far
open PySem PySem.Spec PyProof.Rows L2
open C8 (pss_cut tCut)
open SX (S)
structure TxtW (mg : Str → Option Value) : Prop where
  tuple : mg "tuple" = none
/-! ### the ties of each place -/
def pairD (x : Nm × Int) : PyData := .tuple [.str (S x.1), .int x.2]
theorem dt_pairD {H : Hp} {v : V} {x : Nm × Int} (h : Dt H v (pairD x)) : ∃ t : Addr, v = .ref t ∧ H t = some (.tup [.str (S x.1), .int x.2]) := by
  obtain ⟨t, a, b, rfl, ht, h1, h2⟩ := dt_pair h fun l z => nomatch z
  cases h1
  cases h2
  exact ⟨t, rfl, ht⟩
/-- at D: for each place a list of its own, of the places tied to it with the ties' lengths -/
structure BesideAt (H : Hp) (D : Addr) (pl : List Nm) (ad : Nm → Addr) (nb : Nm → List (Nm × Int)) : Prop where
  dict : H D = some (.dK (dkm pl fun l => .ref (ad l)))
  each : ∀ l ∈ pl, ∃ vs, H (ad l) = some (.lst vs) ∧ DtAll H vs ((nb l).map pairD)
  inj : ∀ l ∈ pl, ∀ m ∈ pl, ad l = ad m → l = m
def nbAdd (nb : Nm → List (Nm × Int)) (a : Nm) (x : Nm × Int) : Nm → List (Nm × Int) := fun l => if l = a then nb l ++ [x] else nb l
theorem BesideAt.keep {H H' : Hp} {D : Addr} {pl : List Nm} {ad : Nm → Addr} {nb : Nm → List (Nm × Int)} (b : BesideAt H D pl ad nb) (s : Same H H') : BesideAt H' D pl ad nb :=
  ⟨s _ _ b.dict, fun l hl => let ⟨vs, h1, h2⟩ := b.each l hl; ⟨vs, s _ _ h1, DtAll.keep (TK.of s) h2⟩, b.inj⟩
theorem BesideAt.ne {H : Hp} {D : Addr} {pl : List Nm} {ad : Nm → Addr} {nb : Nm → List (Nm × Int)} (b : BesideAt H D pl ad nb) {l : Nm} (hl : l ∈ pl) : ad l ≠ D := by
  obtain ⟨vs, h, _⟩ := b.each l hl
  exact ne_of h b.dict (by intro z; cases z)
theorem BesideAt.add {H : Hp} {D : Addr} {pl : List Nm} {ad : Nm → Addr} {nb : Nm → List (Nm × Int)} (b : BesideAt H D pl ad nb) {a : Nm} (ha : a ∈ pl) {x : Nm × Int} {v : V} {vs : List V} (hv : Dt H v (pairD x)) (hvs : H (ad a) = some (.lst vs)) :
    BesideAt (upd H (ad a) (.lst (vs ++ [v]))) D pl ad (nbAdd nb a x) := by
  have tk : TK H (upd H (ad a) (.lst (vs ++ [v]))) := TK.mut hvs
  refine ⟨by rw [upd_ne (b.ne ha).symm]; exact b.dict, fun l hl => ?_, b.inj⟩
  by_cases e : l = a
  · subst e
    obtain ⟨ws, h1, h2⟩ := b.each l hl
    rw [hvs] at h1
    cases h1
    refine ⟨_, upd_same, ?_⟩
    unfold nbAdd
    rw [if_pos rfl, List.map_append]
    exact DtAll.app (DtAll.keep tk h2) (.cons (Dt.keep tk hv) .nil)
  · obtain ⟨ws, h1, h2⟩ := b.each l hl
    refine ⟨ws, by rw [upd_ne (fun z => e (b.inj l hl a ha z))]; exact h1, ?_⟩
    unfold nbAdd
    rw [if_neg e]
    exact DtAll.keep tk h2
/-- the ties of a place, as the program takes them down -/
def nbOf : List Tie → Nm → List (Nm × Int) := List.foldl (fun nb e => nbAdd (nbAdd nb e.1 (e.2.1, e.2.2)) e.2.1 (e.1, e.2.2)) (fun _ => [])
theorem nbOf_snoc (ts : List Tie) (e : Tie) : nbOf (ts ++ [e]) = nbAdd (nbAdd (nbOf ts) e.1 (e.2.1, e.2.2)) e.2.1 (e.1, e.2.2) := by
  unfold nbOf
  rw [List.foldl_append]
  rfl
theorem list_rec_snoc {α : Type} {P : List α → Prop} (h0 : P []) (h1 : ∀ l x, P l → P (l ++ [x])) : ∀ l, P l := by
  intro l
  have : ∀ r : List α, P r.reverse := by
    intro r
    induction r with
    | nil => exact h0
    | cons x r ih =>
      rw [List.reverse_cons]
      exact h1 _ _ ih
  have q := this l.reverse
  rwa [List.reverse_reverse] at q
theorem nbAdd_mem {nb : Nm → List (Nm × Int)} {a l : Nm} {x y : Nm × Int} : y ∈ nbAdd nb a x l ↔ y ∈ nb l ∨ (l = a ∧ y = x) := by
  unfold nbAdd
  by_cases e : l = a
  · rw [if_pos e, List.mem_append, List.mem_singleton]
    simp [e]
  · rw [if_neg e]
    simp [e]
theorem nbOf_adj (ts : List Tie) : ∀ (l x : Nm) (k : Int), (x, k) ∈ nbOf ts l ↔ Adj ts l x k := by
  induction ts using list_rec_snoc with
  | h0 =>
    intro l x k
    constructor
    · intro h
      cases h
    · intro h
      rcases h with h | h <;> cases h
  | h1 ts e ih =>
    intro l x k
    rw [nbOf_snoc, nbAdd_mem, nbAdd_mem, ih]
    obtain ⟨a, b, m⟩ := e
    constructor
    · rintro ((h | ⟨h1, h2⟩) | ⟨h1, h2⟩)
      · exact h.elim (fun z => .inl (List.mem_append_left _ z)) fun z => .inr (List.mem_append_left _ z)
      · cases h2
        exact .inl (by rw [h1]; simp)
      · cases h2
        exact .inr (by rw [h1]; simp)
    · rintro (h | h) <;> rcases List.mem_append.mp h with z | z
      · exact .inl (.inl (.inl z))
      · have z := List.mem_singleton.mp z
        cases z
        exact .inl (.inr ⟨rfl, rfl⟩)
      · exact .inl (.inl (.inr z))
      · have z := List.mem_singleton.mp z
        cases z
        exact .inr ⟨rfl, rfl⟩
theorem nbAdd_len {nb : Nm → List (Nm × Int)} {a l : Nm} {x : Nm × Int} : (nbAdd nb a x l).length ≤ (nb l).length + 1 := by
  unfold nbAdd
  split
  · rw [List.length_append]
    exact Nat.le_refl _
  · omega
theorem nbOf_len (ts : List Tie) : ∀ l, (nbOf ts l).length ≤ 2 * ts.length := by
  induction ts using list_rec_snoc with
  | h0 => intro l; exact Nat.zero_le _
  | h1 ts e ih =>
    intro l
    rw [nbOf_snoc, List.length_append, List.length_singleton]
    have h1 := nbAdd_len (nb := nbAdd (nbOf ts) e.1 (e.2.1, e.2.2)) (a := e.2.1) (l := l) (x := (e.1, e.2.2))
    have h2 := nbAdd_len (nb := nbOf ts) (a := e.1) (l := l) (x := (e.2.1, e.2.2))
    have h3 := ih l
    omega
/-- another object changes -/
theorem BesideAt.off {H : Hp} {D g : Addr} {o : HO} {pl : List Nm} {ad : Nm → Addr} {nb : Nm → List (Nm × Int)} (b : BesideAt H D pl ad nb) (tk : TK H (upd H g o)) (n : D ≠ g) (na : ∀ l ∈ pl, ad l ≠ g) : BesideAt (upd H g o) D pl ad nb :=
  ⟨by rw [upd_ne n]; exact b.dict, fun l hl => let ⟨vs, h1, h2⟩ := b.each l hl; ⟨vs, by rw [upd_ne (na l hl)]; exact h1, DtAll.keep tk h2⟩, b.inj⟩
abbrev s_ties_of_each : Stmt := topS 10
abbrev N_ties_of_each : List Str := ["tree", "places", "ties", "beside", "one", "other", "length", "place"]
theorem sc_ties_of_each : FnScope N_ties_of_each ["tree"] (defScope s_ties_of_each) := ⟨rfl, rfl, rfl, by decide +kernel, rfl, by decide +kernel, by decide +kernel⟩
section
variable {P : Program} {w : World} {K : PySem.W.Frag} {mg : Str → Option Value} {base : Heap}
def spTies : Sp := fun vs H Q _ => ∃ (v : V) (pl : List Nm) (ts : List Tie), vs = [v] ∧ Dt H v (treeD pl ts) ∧ Fine pl ts ∧ ∀ (H' : Hp) (D : Addr) (ad : Nm → Addr), Same H H' → H D = none → BesideAt H' D pl ad (nbOf ts) → (∀ l ∈ pl, H (ad l) = none) → Q (.ref D) H'
theorem ok_ties_of_each {f : Addr} {fd : FuncData} (F : Fun K "_ties_of_each" "_ties_of_each" s_ties_of_each f fd) : FnOk P w K mg base CX0 1 f fd ["tree"] spTies := by
  refine F.ok sc_ties_of_each (fun vs H Q E h => ?_) (fun cdv A outer s H vs Q E hr h => ?_)
  · obtain ⟨v, pl, ts, rfl, _⟩ := h
    rfl
  · obtain ⟨v, pl, ts, rfl, hd, fine, q⟩ := h
    obtain ⟨t, a, b, vs, rfl, ht, ha, hb, hA⟩ := dt_tree hd
    refine ⟨_, (pss_cons (ps_asg (pv 0) (pg_tup rfl (pgs_cons (pg_name (i := 1) sc_ties_of_each.nd rfl (.inl rfl)) (pgs_cons (pg_name (i := 2) sc_ties_of_each.nd rfl (.inl rfl)) pgs_nil))))
      (pss_cons (ps_setDc (i := 3) (own := [("place", 7)]) (g := gName 7) (tt := tYes) rfl sc_ties_of_each.nd rfl rfl (swD_true rfl rfl rfl (by decide +kernel)) (pi_tup (pv 1)) (blkOk_by (N := N_ties_of_each) (sc := defScope s_ties_of_each) (by decide +kernel)) (fun _ _ _ _ _ => pg_name (i := 7) sc_ties_of_each.nd rfl (Or.inl rfl)) (fun _ _ _ _ _ => pts_nil) (fun _ _ _ _ _ => (pv 7)) (fun _ _ _ _ _ => (pe_lst pa_nil)))
      (pss_cut (ps_for PassesOwn.never rfl (pi_tup (pv 2)) (pg_tup rfl (pgs_cons (pg_name (i := 4) sc_ties_of_each.nd rfl (.inl rfl)) (pgs_cons (pg_name (i := 5) sc_ties_of_each.nd rfl (.inl rfl)) (pgs_cons (pg_name (i := 6) sc_ties_of_each.nd rfl (.inl rfl)) pgs_nil))))
        (pss_cons (ps_expr (pe_bm PySem.F.plainAttrs_list PySem.F.slot_list_append PySem.F.type_list_append mt_append (pe_dget (hu_of hr) (pv 3) (pv 4) (fun _ _ => rfl)) (pa_cons (pe_tup (pa_cons (pv 5) (pa_cons (pv 6) pa_nil))) pa_nil)))
        (pss_one (ps_expr (pe_bm PySem.F.plainAttrs_list PySem.F.slot_list_append PySem.F.type_list_append mt_append (pe_dget (hu_of hr) (pv 3) (pv 5) (fun _ _ => rfl)) (pa_cons (pe_tup (pa_cons (pv 4) (pa_cons (pv 6) pa_nil))) pa_nil))))))
      (pss_one (ps_ret (pv 3)))))), ?_⟩
    have nd := fine.tree.nodup
    have pl1 := fine.len
    have len := fine.tree.len
    have vl : vs.length = ts.length := by
      have := DtAll.len hA
      rwa [List.length_map] at this
    refine ⟨_, rfl, t, _, rfl, SqT.of ht, rfl, _, _, rfl, _, _, rfl, rfl, ?_⟩
    refine ⟨_, rfl, a, rfl, ⟨_, ha.sq⟩, fun D nD => ?_⟩
    have Da : D ≠ a := (ha.ne nD).symm
    refine dc_tup (K := K) (a := a) (xs := (pl.map S).map V.str) (fun i H' => ∃ ad : Nm → Addr, Same H H' ∧ BesideAt H' D (pl.take i) ad (fun _ => []) ∧ ∀ l ∈ pl.take i, H (ad l) = none) ⟨fun _ => 0, same_new (Same.refl H) nD, ⟨upd_same, fun l hl => (by cases hl), fun l hl => (by cases hl)⟩, fun l hl => (by cases hl)⟩ (fun i H' _ hP => ?_) (fun i x H' hi hP => ?_) (fun H' hP => ?_)
    · obtain ⟨_, sm, _⟩ := hP
      exact (ha.same sm).sq
    · obtain ⟨ad, sm, bs, fr⟩ := hP
      rw [List.getElem?_map, List.getElem?_map] at hi
      cases el : pl[i]? with
      | none =>
        rw [el] at hi
        cases hi
      | some l =>
        rw [el] at hi
        have ex : x = .str (S l) := (Option.some.inj hi).symm
        subst ex
        have ln : l ∉ pl.take i := fun hm => by
          obtain ⟨j, hj, ej⟩ := List.mem_take_iff_getElem.mp hm
          obtain ⟨hi', ei⟩ := List.getElem?_eq_some_iff.mp el
          have := (List.getElem_inj nd).mp (ej.trans ei.symm)
          omega
        have et : pl.take (i + 1) = pl.take i ++ [l] := by
          rw [List.take_add_one, el]
          rfl
        refine ⟨rfl, _, rfl, Nat.zero_le _, fun g ng => ?_⟩
        have gD : g ≠ D := (ne_of_none bs.dict ng).symm
        have hD : (upd H' g (.lst [])) D = some (.dK (dkm (pl.take i) fun l => .ref (ad l))) := by
          rw [upd_ne gD.symm]
          exact bs.dict
        refine ⟨_, Sum.inr (S l), rfl, hD, by unfold dkm; rw [List.length_map, List.length_take]; exact sz_lt (by omega), ?_⟩
        rw [dkm_new ln, et]
        have adg : ∀ m ∈ pl.take i, ad m ≠ g := fun m hm => by
          obtain ⟨ws, h1, _⟩ := bs.each m hm
          exact ne_of_none h1 ng
        refine ⟨fun z => if z = l then g else ad z, same_put (same_new sm ng) nD, ⟨?_, fun m hm => ?_, fun m hm m' hm' => ?_⟩, fun m hm => ?_⟩
        · rw [upd_same]
          refine congrArg (fun z => some (HO.dK z)) (dkm_cong fun z _ => ?_)
          by_cases e : z = l <;> simp [e]
        · rcases List.mem_append.mp hm with z | z
          · have ml : m ≠ l := fun e => ln (e ▸ z)
            obtain ⟨ws, h1, h2⟩ := bs.each m z
            refine ⟨ws, ?_, DtAll.keep ((TK.new ng).trans (tkD hD)) h2⟩
            rw [if_neg ml, upd_ne (bs.ne z), upd_ne (adg m z)]
            exact h1
          · rw [List.mem_singleton.mp z, if_pos rfl]
            exact ⟨[], by rw [upd_ne gD]; exact upd_same, .nil⟩
        · rcases List.mem_append.mp hm with z | z <;> rcases List.mem_append.mp hm' with y | y
          · have ml : m ≠ l := fun e => ln (e ▸ z)
            have ml' : m' ≠ l := fun e => ln (e ▸ y)
            rw [if_neg ml, if_neg ml']
            exact bs.inj m z m' y
          · have ml : m ≠ l := fun e => ln (e ▸ z)
            rw [if_neg ml, List.mem_singleton.mp y, if_pos rfl]
            exact fun e => absurd e (adg m z)
          · have ml' : m' ≠ l := fun e => ln (e ▸ y)
            rw [if_neg ml', List.mem_singleton.mp z, if_pos rfl]
            exact fun e => absurd e.symm (adg m' y)
          · rw [List.mem_singleton.mp z, List.mem_singleton.mp y]
            exact fun _ => rfl
        · rcases List.mem_append.mp hm with z | z
          · have ml : m ≠ l := fun e => ln (e ▸ z)
            show H (if m = l then g else ad m) = none
            rw [if_neg ml]
            exact fr m z
          · rw [List.mem_singleton.mp z]
            show H (if l = l then g else ad l) = none
            rw [if_pos rfl]
            exact sm.free ng
    · obtain ⟨ad, sm, bs, fr⟩ := hP
      rw [List.length_map, List.length_map, List.take_length] at bs fr
      refine ⟨fun σ2 H2 => ∃ x4 x5 x6, σ2 = [some (.ref t), some (.ref a), some (.ref b), some (.ref D), x4, x5, x6, none] ∧ Same H H2 ∧ BesideAt H2 D pl ad (nbOf ts), ?_, fun σ2 H2 hM => ?_⟩
      · refine ⟨_, rfl, b, rfl, ⟨_, SqT.of (sm _ _ hb)⟩, for_tup (K := K) (a := b) (xs := vs) (fun i σ2 H2 => ∃ x4 x5 x6, σ2 = [some (.ref t), some (.ref a), some (.ref b), some (.ref D), x4, x5, x6, none] ∧ Same H H2 ∧ BesideAt H2 D pl ad (nbOf (ts.take i)))
          ⟨none, none, none, rfl, sm, bs⟩ (fun i σ2 H2 _ hP => ?_) (fun i x σ2 H2 hi hP => ?_) (fun σ2 H2 hP => ?_)⟩
        · obtain ⟨_, _, _, _, sm, _⟩ := hP
          exact SqT.of (sm _ _ hb)
        · obtain ⟨x4, x5, x6, rfl, sm2, bs2⟩ := hP
          obtain ⟨d, hd, hx⟩ := DtAll.get hA hi
          rw [List.getElem?_map] at hd
          cases ee : ts[i]? with
          | none =>
            rw [ee] at hd
            cases hd
          | some e =>
            rw [ee] at hd
            have ed : d = tieD e := (Option.some.inj hd).symm
            subst ed
            obtain ⟨u, rfl, hu⟩ := dt_tie hx
            have em : e ∈ ts := List.mem_of_getElem? ee
            obtain ⟨i1, i2, k1, k2⟩ := fine.tree.ties e em
            have et : ts.take (i + 1) = ts.take i ++ [e] := by
              rw [List.take_add_one, ee]
              rfl
            have tl : (ts.take i).length ≤ 1000 := by
              rw [List.length_take]
              omega
            refine ⟨u, _, rfl, SqT.of (sm2 _ _ hu), rfl, _, _, rfl, _, _, rfl, _, _, rfl, rfl, ?_⟩
            -- beside[one].append
            obtain ⟨w1, g1, g2⟩ := bs2.each e.1 i1
            have l1 : w1.length = (nbOf (ts.take i) e.1).length := by
              have := DtAll.len g2
              rwa [List.length_map] at this
            have l1' := nbOf_len (ts.take i) e.1
            refine ⟨_, rfl, _, rfl, D, .ref (ad e.1), rfl, by rw [← dkm_get (f := fun l => V.ref (ad l)) i1]; exact DGet.k (k := Sum.inr (S e.1)) bs2.dict, .inl ⟨rfl, _, SqL.of g1⟩, _, rfl, _, rfl, (by show 2 ≤ sizeLine; decide), fun p np => ?_⟩
            have bs3 := bs2.keep (same_new (o := .tup [.str (S e.2.1), .int e.2.2]) (Same.refl H2) np)
            have g1' : (upd H2 p (.tup [.str (S e.2.1), .int e.2.2])) (ad e.1) = some (.lst w1) := by
              rw [upd_ne (ne_of_none g1 np)]
              exact g1
            refine ⟨_, _, _, rfl, rfl, g1', sz_lt (by omega), ?_⟩
            have bs4 := bs3.add i1 (x := (e.2.1, e.2.2)) (v := .ref p) (.tup upd_same (.cons (.str _) (.cons (.int _) .nil))) g1'
            have sm4 : Same H (upd (upd H2 p (.tup [.str (S e.2.1), .int e.2.2])) (ad e.1) (.lst (w1 ++ [.ref p]))) := same_put (same_new sm2 np) (fr _ i1)
            generalize upd (upd H2 p (.tup [.str (S e.2.1), .int e.2.2])) (ad e.1) (.lst (w1 ++ [.ref p])) = H4 at bs4 sm4
            -- beside[other].append
            obtain ⟨w2, g3, g4⟩ := bs4.each e.2.1 i2
            have l2 : w2.length = (nbAdd (nbOf (ts.take i)) e.1 (e.2.1, e.2.2) e.2.1).length := by
              have := DtAll.len g4
              rwa [List.length_map] at this
            have l2' := nbOf_len (ts.take i) e.2.1
            have l2'' := nbAdd_len (nb := nbOf (ts.take i)) (a := e.1) (l := e.2.1) (x := (e.2.1, e.2.2))
            refine ⟨_, rfl, _, rfl, D, .ref (ad e.2.1), rfl, by rw [← dkm_get (f := fun l => V.ref (ad l)) i2]; exact DGet.k (k := Sum.inr (S e.2.1)) bs4.dict, .inl ⟨rfl, _, SqL.of g3⟩, _, rfl, _, rfl, (by show 2 ≤ sizeLine; decide), fun p' np' => ?_⟩
            have bs5 := bs4.keep (same_new (o := .tup [.str (S e.1), .int e.2.2]) (Same.refl H4) np')
            have g3' : (upd H4 p' (.tup [.str (S e.1), .int e.2.2])) (ad e.2.1) = some (.lst w2) := by
              rw [upd_ne (ne_of_none g3 np')]
              exact g3
            refine ⟨_, _, _, rfl, rfl, g3', sz_lt (by omega), ?_⟩
            have bs6 := bs5.add i2 (x := (e.1, e.2.2)) (v := .ref p') (.tup upd_same (.cons (.str _) (.cons (.int _) .nil))) g3'
            refine ⟨_, _, _, rfl, same_put (same_new sm4 np') (fr _ i2), ?_⟩
            rw [et, nbOf_snoc]
            exact bs6
        · obtain ⟨x4, x5, x6, rfl, sm2, bs2⟩ := hP
          rw [vl, List.take_length] at bs2
          exact ⟨_, _, _, rfl, sm2, bs2⟩
      · obtain ⟨x4, x5, x6, rfl, sm2, bs2⟩ := hM
        exact ⟨_, rfl, q H2 D ad sm2 nD bs2 fr⟩
end
end Far

namespace Far
open PySem PySem.Spec PyProof.Rows L2
open C8 (pss_cut tCut)
open SX (S)
/-! ### a walk through a tree: fs come to, st to be gone on from, ex being gone on from -/
abbrev s_walk_from : Stmt := topS 9
abbrev N_walk_from : List Str := ["tree", "start", "beside", "back", "lengths", "ahead", "here", "place", "length"]
theorem sc_walk_from : FnScope N_walk_from ["tree", "start"] (defScope s_walk_from) := ⟨rfl, rfl, rfl, by decide +kernel, rfl, by decide +kernel, by decide +kernel⟩
section
variable {P : Program} {w : World} {K : PySem.W.Frag} {mg : Str → Option Value} {base : Heap}
/-- what a walk from u tells, at q -/
structure Walked (H : Hp) (q bk ln : Addr) (pl : List Nm) (ts : List Tie) (u : Nm) (fs : List Nm) (prev : Nm → Nm) : Prop where
  pair : H q = some (.tup [.ref bk, .ref ln])
  back : H bk = some (.dK (dkm fs fun x => .str (S (prev x))))
  lens : H ln = some (.dK (dkm fs fun x => .int (dist ts u x)))
  all : ∀ x, x ∈ fs ↔ x ∈ pl
  pr : ∀ x ∈ fs, x ≠ u → prev x ∈ fs ∧ path ts u x = path ts u (prev x) ++ [x]
def spWalk : Sp := fun vs H Q _ => ∃ (v : V) (pl : List Nm) (ts : List Tie) (u : Nm), vs = [v, .str (S u)] ∧ Dt H v (treeD pl ts) ∧ Fine pl ts ∧ u ∈ pl ∧ ∀ (H' : Hp) (q bk ln : Addr) (fs : List Nm) (prev : Nm → Nm), Same H H' → Walked H' q bk ln pl ts u fs prev → Q (.ref q) H'
theorem ok_walk_from {f : Addr} {fd : FuncData} (F : Fun K "walk_from" "walk_from" s_walk_from f fd) (C_ties_of_each : Cal P w K mg base 1 "_ties_of_each" spTies) : FnOk P w K mg base CX0 2 f fd ["tree", "start"] spWalk := by
  refine F.ok sc_walk_from (fun vs H Q E h => ?_) (fun cdv A outer s H vs Q E hr h => ?_)
  · obtain ⟨v, pl, ts, u, rfl, _⟩ := h
    rfl
  · obtain ⟨v, pl, ts, u, rfl, hd, fine, hu, q⟩ := h
    refine ⟨_, (pss_cons (ps_set (i := 2) sc_walk_from.nd rfl (.inl rfl) (pe_c C_ties_of_each hr (by decide) rfl (pa_cons (pv 0) pa_nil)))
      (pss_cons (ps_set (i := 3) sc_walk_from.nd rfl (.inl rfl) (pe_disp (pps_cons (pv 1) (pv 1) pps_nil) (by rfl) (by rfl) (fun z => by cases z) (by decide)))
      (pss_cons (ps_set (i := 4) sc_walk_from.nd rfl (.inl rfl) (pe_disp (pps_cons (pv 1) pe_int pps_nil) (by rfl) (by rfl) (fun z => by cases z) (by decide)))
      (pss_cons (ps_set (i := 5) sc_walk_from.nd rfl (.inl rfl) (pe_lst (pa_cons (pv 1) pa_nil)))
      (pss_cut (ps_while PassesOwn.never (pt_truth (pv 5) (by intro _; rfl))
        (pss_cons (ps_set (i := 6) sc_walk_from.nd rfl (.inl rfl) (pe_bm0 PySem.F.plainAttrs_list PySem.F.slot_list_pop PySem.F.type_list_pop mt_pop (pv 5)))
        (pss_one (ps_for PassesOwn.never rfl (pi_list (pe_dget (hu_of hr) (pv 2) (pv 6) (fun _ _ => rfl))) (pg_tup rfl (pgs_cons (pg_name (i := 7) sc_walk_from.nd rfl (.inl rfl)) (pgs_cons (pg_name (i := 8) sc_walk_from.nd rfl (.inl rfl)) pgs_nil)))
          (pss_one (ps_if (pt_cmp (pc_dnotin (hu_of hr) (pv 7) (pv 3)))
            (pss_cons (ps_dput (hu_of hr) (pv 3) (pv 7) (pv 6) rfl)
            (pss_cons (ps_dput (hu_of hr) (pv 4) (pv 7) (pe_op op_add (pe_dget (hu_of hr) (pv 4) (pv 6) (fun _ _ => rfl)) (pv 8)) rfl)
            (pss_one (ps_expr (pe_bm PySem.F.plainAttrs_list PySem.F.slot_list_append PySem.F.type_list_append mt_append (pv 5) (pa_cons (pv 7) pa_nil))))))
            pss_nil))))))
      (pss_one (ps_ret (pe_tup (pa_cons (pv 3) (pa_cons (pv 4) pa_nil)))))))))), ?_⟩
    have tr := fine.tree
    have pl1 := fine.len
    have tl1 := tr.len
    refine ⟨_, rfl, v, pl, ts, rfl, hd, fine, fun H1 D ad S1 nD bs fr => ?_⟩
    -- back, lengths, ahead
    refine fun bk nbk => ⟨_, rfl, _, rfl, upd_same, [(Sum.inr (S u), .str (S u))], rfl, (by decide : 1 ≤ 15), ?_⟩
    rw [upd_upd]
    have S2 := same_new (o := .dK (mergeK [] [((Sum.inr (S u) : Key), V.str (S u))])) S1 nbk
    have bs2 := bs.keep (same_new (o := .dK (mergeK [] [((Sum.inr (S u) : Key), V.str (S u))])) (Same.refl H1) nbk)
    refine fun ln nln => ⟨_, rfl, upd_same, [(Sum.inr (S u), .int 0)], rfl, (by decide : 1 ≤ 15), ?_⟩
    rw [upd_upd]
    have S3 := same_new (o := .dK (mergeK [] [((Sum.inr (S u) : Key), V.int 0)])) S2 nln
    have bs3 := bs2.keep (same_new (o := .dK (mergeK [] [((Sum.inr (S u) : Key), V.int 0)])) (Same.refl _) nln)
    refine ⟨_, rfl, (by show 1 ≤ sizeLine; decide), fun ah nah => ?_⟩
    have S4 := same_new (o := .lst [.str (S u)]) S3 nah
    have bs4 := bs3.keep (same_new (o := .lst [.str (S u)]) (Same.refl _) nah)
    have bkln : bk ≠ ln := ne_of_none upd_same nln
    have bkah : bk ≠ ah := ne_of_none (by rw [upd_ne bkln]; exact upd_same) nah
    have lnah : ln ≠ ah := ne_of_none upd_same nah
    have Dbk : D ≠ bk := ne_of_none bs.dict nbk
    have Dln : D ≠ ln := ne_of_none bs2.dict nln
    have Dah : D ≠ ah := ne_of_none bs3.dict nah
    have bk0 : H bk = none := S1.free nbk
    have ln0 : H ln = none := S2.free nln
    have ah0 : H ah = none := S3.free nah
    have adbk : ∀ l ∈ pl, ad l ≠ bk := fun l hl => let ⟨_, h1, _⟩ := bs.each l hl; ne_of_none h1 nbk
    have adln : ∀ l ∈ pl, ad l ≠ ln := fun l hl => let ⟨_, h1, _⟩ := bs2.each l hl; ne_of_none h1 nln
    have adah : ∀ l ∈ pl, ad l ≠ ah := fun l hl => let ⟨_, h1, _⟩ := bs3.each l hl; ne_of_none h1 nah
    have hbk : (upd (upd (upd H1 bk (.dK (mergeK [] [((Sum.inr (S u) : Key), V.str (S u))]))) ln (.dK (mergeK [] [((Sum.inr (S u) : Key), V.int 0)]))) ah (.lst [.str (S u)])) bk = some (.dK (dkm [u] fun x => .str (S u))) := by
      rw [upd_ne bkah, upd_ne bkln]
      exact upd_same
    have hln : (upd (upd (upd H1 bk (.dK (mergeK [] [((Sum.inr (S u) : Key), V.str (S u))]))) ln (.dK (mergeK [] [((Sum.inr (S u) : Key), V.int 0)]))) ah (.lst [.str (S u)])) ln = some (.dK (dkm [u] fun x => .int (dist ts u x))) := by
      rw [upd_ne lnah]
      refine upd_same.trans ?_
      unfold dkm
      rw [List.map_singleton]
      show some (HO.dK [((Sum.inr (S u) : Key), V.int 0)]) = some (HO.dK [((Sum.inr (S u) : Key), V.int (dist ts u u))])
      rw [(tr.dist_self u).1]
    have hah : (upd (upd (upd H1 bk (.dK (mergeK [] [((Sum.inr (S u) : Key), V.str (S u))]))) ln (.dK (mergeK [] [((Sum.inr (S u) : Key), V.int 0)]))) ah (.lst [.str (S u)])) ah = some (.lst (([u].map S).map V.str)) := upd_same
    generalize upd (upd (upd H1 bk (.dK (mergeK [] [((Sum.inr (S u) : Key), V.str (S u))]))) ln (.dK (mergeK [] [((Sum.inr (S u) : Key), V.int 0)]))) ah (.lst [.str (S u)]) = H4 at S4 bs4 hbk hln hah
    refine ⟨fun σ' H' => ∃ (fs : List Nm) (prev : Nm → Nm) (x6 x7 x8 : Option V), σ' = [some v, some (.str (S u)), some (.ref D), some (.ref bk), some (.ref ln), some (.ref ah), x6, x7, x8] ∧ Same H H' ∧ H' bk = some (.dK (dkm fs fun x => .str (S (prev x)))) ∧ H' ln = some (.dK (dkm fs fun x => .int (dist ts u x))) ∧ Wk pl ts u fs [] prev (fun _ => False), ?_, fun σ' H' hM => ?_⟩
    · refine ⟨fun m σ' H' => ∃ (fs st : List Nm) (prev : Nm → Nm) (x6 x7 x8 : Option V), σ' = [some v, some (.str (S u)), some (.ref D), some (.ref bk), some (.ref ln), some (.ref ah), x6, x7, x8] ∧ Same H H' ∧ BesideAt H' D pl ad (nbOf ts) ∧ H' bk = some (.dK (dkm fs fun x => .str (S (prev x)))) ∧ H' ln = some (.dK (dkm fs fun x => .int (dist ts u x))) ∧ H' ah = some (.lst ((st.map S).map V.str)) ∧ Wk pl ts u fs st prev (fun _ => False) ∧ st.length ≤ fs.length ∧ 2 * fs.length + m = 2 * pl.length + st.length,
        ⟨2 * pl.length - 1, [u], [u], fun _ => u, none, none, none, rfl, S4, bs4, hbk, hln, hah, Wk.start tr hu, Nat.le_refl _, by have := List.length_pos_of_mem hu; simp; omega⟩, ?_⟩
      rintro m σ2 H2 ⟨fs, st, prev, x6, x7, x8, rfl, SM, bs5, hbk5, hln5, hah5, wk, sl, em⟩
      refine ⟨_, rfl, _, .inl ⟨_, SqL.of hah5, rfl⟩, ?_⟩
      rcases List.eq_nil_or_concat st with rfl | ⟨st', h, e⟩
      · exact ⟨fs, prev, x6, x7, x8, rfl, SM, hbk5, hln5, wk⟩
      · rw [List.concat_eq_append] at e
        subst e
        have ne : ((st' ++ [h]).map S).map V.str = (st'.map S).map V.str ++ [.str (S h)] := by
          rw [List.map_append, List.map_append]
          rfl
        rw [ne] at hah5 ⊢
        have nb : (!((st'.map S).map V.str ++ [V.str (S h)]).isEmpty) = true := by simp
        rw [nb]
        refine iteT ?_
        obtain ⟨hh, wk1⟩ := wk.pop
        have hpl := wk1.sub h hh
        have fl := nodup_sub_len fs pl wk.nd wk.sub
        rw [List.length_append, List.length_singleton] at em sl
        obtain ⟨ws, hw1, hw2⟩ := bs5.each h hpl
        have wl : ws.length = (nbOf ts h).length := by
          have := DtAll.len hw2
          rwa [List.length_map] at this
        refine ⟨fun σ' H' => ∃ (fs' st'' : List Nm) (prev' : Nm → Nm) (x6 x7 x8 : Option V), σ' = [some v, some (.str (S u)), some (.ref D), some (.ref bk), some (.ref ln), some (.ref ah), x6, x7, x8] ∧ Same H H' ∧ BesideAt H' D pl ad (nbOf ts) ∧ H' bk = some (.dK (dkm fs' fun x => .str (S (prev' x)))) ∧ H' ln = some (.dK (dkm fs' fun x => .int (dist ts u x))) ∧ H' ah = some (.lst ((st''.map S).map V.str)) ∧ Wk pl ts u fs' st'' prev' (fun _ => False) ∧ fs.length ≤ fs'.length ∧ fs'.length + st'.length = fs.length + st''.length, ?_, ?_⟩
        · rintro σ' H' ⟨fs', st'', prev', y6, y7, y8, e1, e2, e3, e4, e5, e6, e7, e8, e9⟩
          have fl' := nodup_sub_len fs' pl e7.nd e7.sub
          exact ⟨2 * pl.length + st''.length - 2 * fs'.length, by omega, fs', st'', prev', y6, y7, y8, e1, e2, e3, e4, e5, e6, e7, by omega, by omega⟩
        · refine ⟨_, rfl, .inl ⟨rfl, _, SqL.of hah5⟩, ah, _, .str (S h), rfl, rfl, hah5, by simp, ?_⟩
          rw [List.dropLast_concat]
          have hbk6 : (upd H2 ah (.lst ((st'.map S).map V.str))) bk = some (.dK (dkm fs fun x => .str (S (prev x)))) := by rw [upd_ne bkah]; exact hbk5
          have hln6 : (upd H2 ah (.lst ((st'.map S).map V.str))) ln = some (.dK (dkm fs fun x => .int (dist ts u x))) := by rw [upd_ne lnah]; exact hln5
          have hw6 : (upd H2 ah (.lst ((st'.map S).map V.str))) (ad h) = some (.lst ws) := by rw [upd_ne (adah h hpl)]; exact hw1
          have SM6 : Same H (upd H2 ah (.lst ((st'.map S).map V.str))) := same_put SM ah0
          have bs6 : BesideAt (upd H2 ah (.lst ((st'.map S).map V.str))) D pl ad (nbOf ts) := bs5.off (TK.mut hah5) Dah adah
          have hah6 : (upd H2 ah (.lst ((st'.map S).map V.str))) ah = some (.lst ((st'.map S).map V.str)) := upd_same
          generalize upd H2 ah (.lst ((st'.map S).map V.str)) = H6 at hbk6 hln6 hw6 SM6 bs6 hah6
          refine ⟨_, rfl, _, rfl, D, .ref (ad h), rfl, by rw [← dkm_get (f := fun l => V.ref (ad l)) hpl]; exact DGet.k (k := Sum.inr (S h)) bs6.dict, ad h, rfl, ⟨_, SqL.of hw6⟩, for_list (K := K) (a := ad h) (xs := ws) (fun i σ' H' => ∃ (fs' st'' : List Nm) (prev' : Nm → Nm) (x7 x8 : Option V), σ' = [some v, some (.str (S u)), some (.ref D), some (.ref bk), some (.ref ln), some (.ref ah), some (.str (S h)), x7, x8] ∧ Same H H' ∧ BesideAt H' D pl ad (nbOf ts) ∧ H' (ad h) = some (.lst ws) ∧ H' bk = some (.dK (dkm fs' fun x => .str (S (prev' x)))) ∧ H' ln = some (.dK (dkm fs' fun x => .int (dist ts u x))) ∧ H' ah = some (.lst ((st''.map S).map V.str)) ∧ Wk pl ts u fs' st'' prev' (fun x => x = h) ∧ fs.length ≤ fs'.length ∧ fs'.length + st'.length = fs.length + st''.length ∧ h ∈ fs' ∧ ∀ p ∈ (nbOf ts h).take i, p.1 ∈ fs')
            ⟨fs, st', prev, x7, x8, rfl, SM6, bs6, hw6, hbk6, hln6, hah6, wk1, Nat.le_refl _, rfl, hh, fun p hp => (by cases hp)⟩ (fun i σ' H' _ hP => ?_) (fun i x σ' H' hi hP => ?_) (fun σ' H' hP => ?_)⟩
          · obtain ⟨_, _, _, _, _, _, _, _, hw, _⟩ := hP
            exact SqL.of hw
          · obtain ⟨fs', st'', prev', y7, y8, rfl, SM7, bs7, hw7, hbk7, hln7, hah7, wk7, le7, em7, hh7, nb7⟩ := hP
            obtain ⟨ws', hw', hA7⟩ := bs7.each h hpl
            rw [hw7] at hw'
            cases hw'
            obtain ⟨d, hd', hx⟩ := DtAll.get hA7 hi
            rw [List.getElem?_map] at hd'
            cases ee : (nbOf ts h)[i]? with
            | none =>
              rw [ee] at hd'
              cases hd'
            | some yk =>
              obtain ⟨y, k⟩ := yk
              rw [ee] at hd'
              have ed : d = pairD (y, k) := (Option.some.inj hd').symm
              subst ed
              obtain ⟨g, rfl, hg⟩ := dt_pairD hx
              have adj : Adj ts h y k := (nbOf_adj ts h y k).mp (List.mem_of_getElem? ee)
              have et : (nbOf ts h).take (i + 1) = (nbOf ts h).take i ++ [(y, k)] := by
                rw [List.take_add_one, ee]
                rfl
              have fl' := nodup_sub_len fs' pl wk7.nd wk7.sub
              have szf : ∀ f : Nm → V, (dkm fs' f).length < sizeLine := fun f => by
                unfold dkm
                rw [List.length_map]
                exact sz_lt (by omega)
              refine ⟨g, _, rfl, SqT.of hg, rfl, _, _, rfl, _, _, rfl, rfl, ?_⟩
              refine ⟨_, rfl, _, rfl, bk, _, rfl, DGet.k (k := Sum.inr (S y)) hbk7, _, rfl, ?_⟩
              rw [dkm_some]
              by_cases hy : y ∈ fs'
              · rw [decide_eq_true hy]
                refine iteF ⟨fs', st'', prev', _, _, rfl, SM7, bs7, hw7, hbk7, hln7, hah7, wk7, le7, em7, hh7, fun p hp => ?_⟩
                rw [et] at hp
                rcases List.mem_append.mp hp with z | z
                · exact nb7 p z
                · rw [List.mem_singleton.mp z]
                  exact hy
              · rw [decide_eq_false hy]
                refine iteT ?_
                obtain ⟨e1, wk8⟩ := wk7.push tr hh7 adj hy
                -- back[place] = here
                refine ⟨_, rfl, _, rfl, _, rfl, bk, _, rfl, DPut.k (k := Sum.inr (S y)) hbk7 (szf _), ?_⟩
                rw [dkm_new hy]
                have SM8 := same_put (o := .dK (dkm (fs' ++ [y]) fun z => if z = y then V.str (S h) else .str (S (prev' z)))) SM7 bk0
                have bs8 := bs7.off (o := .dK (dkm (fs' ++ [y]) fun z => if z = y then V.str (S h) else .str (S (prev' z)))) (tkD hbk7) Dbk adbk
                have hln8 : (upd H' bk (.dK (dkm (fs' ++ [y]) fun z => if z = y then V.str (S h) else .str (S (prev' z))))) ln = some (.dK (dkm fs' fun x => .int (dist ts u x))) := by rw [upd_ne bkln.symm]; exact hln7
                have hah8 : (upd H' bk (.dK (dkm (fs' ++ [y]) fun z => if z = y then V.str (S h) else .str (S (prev' z))))) ah = some (.lst ((st''.map S).map V.str)) := by rw [upd_ne bkah.symm]; exact hah7
                have hw8 : (upd H' bk (.dK (dkm (fs' ++ [y]) fun z => if z = y then V.str (S h) else .str (S (prev' z))))) (ad h) = some (.lst ws) := by rw [upd_ne (adbk h hpl)]; exact hw7
                have hbk8 : (upd H' bk (.dK (dkm (fs' ++ [y]) fun z => if z = y then V.str (S h) else .str (S (prev' z))))) bk = some (.dK (dkm (fs' ++ [y]) fun z => .str (S (if z = y then h else prev' z)))) := by
                  rw [upd_same]
                  exact congrArg (fun z => some (HO.dK z)) (dkm_cong fun z _ => by by_cases q : z = y <;> simp [q])
                generalize upd H' bk (.dK (dkm (fs' ++ [y]) fun z => if z = y then V.str (S h) else .str (S (prev' z)))) = H8 at SM8 bs8 hln8 hah8 hw8 hbk8
                -- lengths[place] = lengths[here] + length
                refine ⟨_, rfl, _, rfl, ln, .int (dist ts u h), rfl, by rw [← dkm_get (f := fun x => V.int (dist ts u x)) hh7]; exact DGet.k (k := Sum.inr (S h)) hln8, _, rfl, _, _, rfl, rfl, _, rfl, _, rfl, ln, _, rfl, DPut.k (k := Sum.inr (S y)) hln8 (szf _), ?_⟩
                rw [dkm_new hy]
                have SM9 := same_put (o := .dK (dkm (fs' ++ [y]) fun z => if z = y then V.int (dist ts u h + k) else .int (dist ts u z))) SM8 ln0
                have bs9 := bs8.off (o := .dK (dkm (fs' ++ [y]) fun z => if z = y then V.int (dist ts u h + k) else .int (dist ts u z))) (tkD hln8) Dln adln
                have hbk9 : (upd H8 ln (.dK (dkm (fs' ++ [y]) fun z => if z = y then V.int (dist ts u h + k) else .int (dist ts u z)))) bk = some (.dK (dkm (fs' ++ [y]) fun z => .str (S (if z = y then h else prev' z)))) := by rw [upd_ne bkln]; exact hbk8
                have hah9 : (upd H8 ln (.dK (dkm (fs' ++ [y]) fun z => if z = y then V.int (dist ts u h + k) else .int (dist ts u z)))) ah = some (.lst ((st''.map S).map V.str)) := by rw [upd_ne lnah.symm]; exact hah8
                have hw9 : (upd H8 ln (.dK (dkm (fs' ++ [y]) fun z => if z = y then V.int (dist ts u h + k) else .int (dist ts u z)))) (ad h) = some (.lst ws) := by rw [upd_ne (adln h hpl)]; exact hw8
                have hln9 : (upd H8 ln (.dK (dkm (fs' ++ [y]) fun z => if z = y then V.int (dist ts u h + k) else .int (dist ts u z)))) ln = some (.dK (dkm (fs' ++ [y]) fun z => .int (dist ts u z))) := by
                  rw [upd_same]
                  refine congrArg (fun z => some (HO.dK z)) (dkm_cong fun z _ => ?_)
                  by_cases q : z = y
                  · rw [if_pos q, q, e1]
                  · rw [if_neg q]
                generalize upd H8 ln (.dK (dkm (fs' ++ [y]) fun z => if z = y then V.int (dist ts u h + k) else .int (dist ts u z))) = H9 at SM9 bs9 hbk9 hah9 hw9 hln9
                -- ahead.append(place)
                have stl : st''.length ≤ 3000 := by omega
                refine ⟨_, rfl, .inl ⟨rfl, _, SqL.of hah9⟩, _, rfl, ah, _, _, rfl, rfl, hah9, by rw [List.length_map, List.length_map]; exact sz_lt (by omega), ?_⟩
                refine ⟨fs' ++ [y], st'' ++ [y], _, _, _, rfl, same_put SM9 ah0, bs9.off (TK.mut hah9) Dah adah, by rw [upd_ne (adah h hpl)]; exact hw9, by rw [upd_ne bkah]; exact hbk9, by rw [upd_ne lnah]; exact hln9, ?_, wk8, by rw [List.length_append]; omega, by rw [List.length_append, List.length_append]; omega, List.mem_append_left _ hh7, fun p hp => ?_⟩
                · rw [upd_same, List.map_append, List.map_append]
                  rfl
                · rw [et] at hp
                  rcases List.mem_append.mp hp with z | z
                  · exact List.mem_append_left _ (nb7 p z)
                  · rw [List.mem_singleton.mp z]
                    exact List.mem_append_right _ (List.mem_singleton.mpr rfl)
          · obtain ⟨fs', st'', prev', y7, y8, rfl, SM7, bs7, hw7, hbk7, hln7, hah7, wk7, le7, em7, hh7, nb7⟩ := hP
            refine ⟨fs', st'', prev', _, _, _, rfl, SM7, bs7, hbk7, hln7, hah7, wk7.shut fun y k ha => ?_, le7, em7⟩
            rw [wl, List.take_length] at nb7
            exact nb7 _ ((nbOf_adj ts h y k).mpr ha)
    · obtain ⟨fs, prev, x6, x7, x8, rfl, SM, hbk5, hln5, wk⟩ := hM
      refine ⟨_, rfl, _, rfl, (by show 2 ≤ sizeLine; decide), fun p np => ?_⟩
      refine q _ p bk ln fs prev (same_new SM np) ⟨upd_same, by rw [upd_ne (ne_of_none hbk5 np)]; exact hbk5, by rw [upd_ne (ne_of_none hln5 np)]; exact hln5, wk.all tr, wk.pr⟩
end
end Far

namespace Far
open PySem PySem.Spec PyProof.Rows L2
open C8 (pss_cut tCut)
open SX (S)
theorem inV_strsT (l : Nm) (ls : List Nm) : inV (.str (S l)) ((ls.map S).map V.str) = decide (l ∈ ls) := inV_strs l ls
theorem pl0_of {H : Hp} {v : V} {pl : List Nm} {ts : List Tie} (h : Dt H v (treeD pl ts)) : ∃ (t a b : Addr), v = .ref t ∧ H t = some (.tup [.ref a, .ref b]) ∧ TupAt H a ((pl.map S).map V.str) := by
  obtain ⟨t, a, b, vs, e, h1, h2, _⟩ := dt_tree h
  exact ⟨t, a, b, e, h1, h2⟩
abbrev s_check_places : Stmt := topS 8
abbrev N_check_places : List Str := ["tree", "names", "name"]
theorem sc_check_places : FnScope N_check_places ["tree", "names"] (defScope s_check_places) := ⟨rfl, rfl, rfl, by decide +kernel, rfl, by decide +kernel, by decide +kernel⟩
section
variable {P : Program} {w : World} {K : PySem.W.Frag} {mg : Str → Option Value} {base : Heap}
def spCheck : Sp := fun vs H Q _ => ∃ (v : V) (n : Addr) (pl ns : List Nm) (ts : List Tie), vs = [v, .ref n] ∧ Dt H v (treeD pl ts) ∧ H n = some (.tup ((ns.map S).map V.str)) ∧ (∀ x ∈ ns, x ∈ pl) ∧ Q .non H
theorem ok_check_places {f : Addr} {fd : FuncData} (F : Fun K "check_places" "check_places" s_check_places f fd) : FnOk P w K mg base CX0 1 f fd ["tree", "names"] spCheck := by
  refine F.ok sc_check_places (fun vs H Q E h => ?_) (fun cdv A outer s H vs Q E hr h => ?_)
  · obtain ⟨v, n, pl, ns, ts, rfl, _⟩ := h
    rfl
  · obtain ⟨v, n, pl, ns, ts, rfl, hd, hn, sub, q⟩ := h
    obtain ⟨t, a, b, rfl, ht, ha⟩ := pl0_of hd
    refine ⟨_, (pss_one (ps_for PassesOwn.never rfl (pi_tup (pv 1)) (pg_name (i := 2) sc_check_places.nd rfl (.inl rfl))
        (pss_one (ps_if (pt_cmpR op_notIn_seq (pv 2) (pe_ix ix_tup (pv 0) pe_int (fun _ _ => rfl)) rfl)
          (pss_one ps_never)
          pss_nil)))), ?_⟩
    refine ⟨_, rfl, n, rfl, ⟨_, SqT.of hn⟩, for_tup (K := K) (a := n) (xs := (ns.map S).map V.str) (fun i σ' H' => (∃ x2, σ' = [some (.ref t), some (.ref n), x2]) ∧ H' = H) ⟨⟨_, rfl⟩, rfl⟩ (fun i σ' H' _ hP => hP.2 ▸ SqT.of hn) (fun i x σ' H' hi hP => ?_) (fun σ' H' hP => hP.2 ▸ q)⟩
    obtain ⟨⟨x2, rfl⟩, rfl⟩ := hP
    obtain ⟨l, hl, rfl⟩ := strs_at (List.mem_of_getElem? hi)
    refine ⟨_, rfl, _, rfl, t, _, 0, .ref a, rfl, rfl, SqT.of ht, atI_nat (j := 0) rfl, a, _, rfl, .inr ha.sq, rfl, flat_strs pl, _, rfl, ?_⟩
    rw [inV_strs, decide_eq_true (sub l hl)]
    exact iteF ⟨⟨_, rfl⟩, rfl⟩
end
abbrev s_lengths_from : Stmt := topS 7
abbrev N_lengths_from : List Str := ["tree", "place", "_", "lengths", "name"]
theorem sc_lengths_from : FnScope N_lengths_from ["tree", "place"] (defScope s_lengths_from) := ⟨rfl, rfl, rfl, by decide +kernel, rfl, by decide +kernel, by decide +kernel⟩
section
variable {P : Program} {w : World} {K : PySem.W.Frag} {mg : Str → Option Value} {base : Heap}
def spLens : Sp := fun vs H Q _ => ∃ (v : V) (pl : List Nm) (ts : List Tie) (u : Nm), vs = [v, .str (S u)] ∧ Dt H v (treeD pl ts) ∧ Fine pl ts ∧ u ∈ pl ∧ ∀ (H' : Hp) (q : Addr), Same H H' → H q = none → H' q = some (.tup (pl.map fun x => .int (dist ts u x))) → Q (.ref q) H'
theorem lens_body {H1 : Hp} {q bk ln : Addr} {pl fs : List Nm} {ts : List Tie} {u : Nm} {prev : Nm → Nm} (W : Walked H1 q bk ln pl ts u fs prev) {x : Nm} (hx : x ∈ pl) {H' : Hp} (s : H' ln = H1 ln) : DGet H' ln (.str (S x)) (some (.int (dist ts u x))) := by
  have e := W.lens
  rw [← s] at e
  have := DGet.k (k := Sum.inr (S x)) e
  rw [dkm_get ((W.all x).mpr hx)] at this
  exact this
theorem ok_lengths_from {f : Addr} {fd : FuncData} (F : Fun K "lengths_from" "lengths_from" s_lengths_from f fd) (T : TxtW mg) (Ccheck_places : Cal P w K mg base 1 "check_places" spCheck) (Cwalk_from : Cal P w K mg base 2 "walk_from" spWalk) : FnOk P w K mg base CX0 3 f fd ["tree", "place"] spLens := by
  refine F.ok sc_lengths_from (fun vs H Q E h => ?_) (fun cdv A outer s H vs Q E hr h => ?_)
  · obtain ⟨v, pl, ts, u, rfl, _⟩ := h
    rfl
  · obtain ⟨v, pl, ts, u, rfl, hd, fine, hu, q⟩ := h
    obtain ⟨t, a, b, rfl, ht, ha⟩ := pl0_of hd
    refine ⟨_, (pss_cons (ps_expr (pe_c Ccheck_places hr (by decide) rfl (pa_cons (pv 0) (pa_cons (pe_tup (pa_cons (pv 1) pa_nil)) pa_nil))))
      (pss_cons (ps_asg (pe_c Cwalk_from hr (by decide) rfl (pa_cons (pv 0) (pa_cons (pv 1) pa_nil))) (pg_tup rfl (pgs_cons (pg_name (i := 2) sc_lengths_from.nd rfl (.inl rfl)) (pgs_cons (pg_name (i := 3) sc_lengths_from.nd rfl (.inr rfl)) pgs_nil))))
      (pss_one (ps_ret (pe_tupleOf (by rfl) T.tuple (pe_lc (own := [("name", 4)]) (g := gName 4) (tt := tYes) rfl sc_lengths_from.nd (pi_tup (pe_ix ix_tup (pv 0) pe_int (fun _ _ => rfl))) (blkOk_by (N := N_lengths_from) (sc := defScope s_lengths_from) (by decide +kernel)) (fun _ _ _ _ _ => pg_name (i := 4) sc_lengths_from.nd rfl (Or.inl rfl)) (fun _ _ _ _ _ => pts_nil) (fun _ _ _ _ _ => (pe_dget (hu_of hr) (pv 3) (pv 4) (fun _ _ => rfl))))))))), ?_⟩
    refine ⟨_, rfl, _, rfl, (by show 1 ≤ sizeLine; decide), fun p np => ?_⟩
    have s1 := same_new (o := .tup [.str (S u)]) (Same.refl H) np
    refine ⟨.ref t, p, pl, [u], ts, rfl, Dt.keep (TK.of s1) hd, upd_same, fun x hx => by rw [List.mem_singleton.mp hx]; exact hu, ?_⟩
    refine ⟨_, rfl, _, rfl, .ref t, pl, ts, u, rfl, Dt.keep (TK.of s1) hd, fine, hu, fun H1 g bk ln fs prev S1 W => ?_⟩
    have s2 := s1.trans S1
    refine ⟨g, _, rfl, SqT.of W.pair, rfl, _, _, rfl, _, _, rfl, rfl, ?_⟩
    refine ⟨_, rfl, t, _, 0, .ref a, rfl, rfl, SqT.of (s2 _ _ ht), atI_nat (j := 0) rfl, a, rfl, ⟨_, (ha.same s2).sq⟩, fun D nD => ?_⟩
    have Da : a ≠ D := (ha.same s2).ne nD
    have Dl : ln ≠ D := ne_of_none W.lens nD
    refine lc_tup (K := K) (a := a) (xs := (pl.map S).map V.str) (fun i H' => H' = upd H1 D (.lst ((pl.take i).map fun x => .int (dist ts u x)))) rfl (fun i H' _ hP => ?_) (fun i x H' hi hP => ?_) (fun H' hP => ?_)
    · rw [hP]
      exact ((ha.same s2).updN Da).sq
    · subst hP
      have pl1 := fine.len
      rw [List.getElem?_map, List.getElem?_map] at hi
      cases el : pl[i]? with
      | none =>
        rw [el] at hi
        cases hi
      | some l =>
        rw [el] at hi
        have ex : x = .str (S l) := (Option.some.inj hi).symm
        subst ex
        refine ⟨rfl, _, rfl, _, rfl, ln, .int (dist ts u l), rfl, lens_body W (List.mem_of_getElem? el) (upd_ne Dl), _, upd_same, by rw [List.length_map, List.length_take]; exact sz_lt (by omega), ?_⟩
        rw [upd_upd, List.take_add_one, el, List.map_append]
        rfl
    · subst hP
      rw [List.length_map, List.length_map, List.take_length]
      have s3 := same_new (o := .lst (pl.map fun x => V.int (dist ts u x))) s2 nD
      refine .inl ⟨D, _, rfl, SqL.of upd_same, fun r nr => ?_⟩
      exact q _ r (same_new s3 nr) (s3.free nr) upd_same
end
end Far

namespace Far
open PySem PySem.Spec PyProof.Rows L2
open C8 (pss_cut tCut)
open SX (S)
abbrev s_length_between : Stmt := topS 6
abbrev N_length_between : List Str := ["tree", "one", "other", "_", "lengths"]
theorem sc_length_between : FnScope N_length_between ["tree", "one", "other"] (defScope s_length_between) := ⟨rfl, rfl, rfl, by decide +kernel, rfl, by decide +kernel, by decide +kernel⟩
section
variable {P : Program} {w : World} {K : PySem.W.Frag} {mg : Str → Option Value} {base : Heap}
def spLen : Sp := fun vs H Q _ => ∃ (v : V) (pl : List Nm) (ts : List Tie) (u x : Nm), vs = [v, .str (S u), .str (S x)] ∧ Dt H v (treeD pl ts) ∧ Fine pl ts ∧ u ∈ pl ∧ x ∈ pl ∧ ∀ H' : Hp, Same H H' → Q (.int (dist ts u x)) H'
theorem ok_length_between {f : Addr} {fd : FuncData} (F : Fun K "length_between" "length_between" s_length_between f fd) (Ccheck_places : Cal P w K mg base 1 "check_places" spCheck) (Cwalk_from : Cal P w K mg base 2 "walk_from" spWalk) : FnOk P w K mg base CX0 3 f fd ["tree", "one", "other"] spLen := by
  refine F.ok sc_length_between (fun vs H Q E h => ?_) (fun cdv A outer s H vs Q E hr h => ?_)
  · obtain ⟨v, pl, ts, u, x, rfl, _⟩ := h
    rfl
  · obtain ⟨v, pl, ts, u, x, rfl, hd, fine, hu, hx, q⟩ := h
    refine ⟨_, (pss_cons (ps_expr (pe_c Ccheck_places hr (by decide) rfl (pa_cons (pv 0) (pa_cons (pe_tup (pa_cons (pv 1) (pa_cons (pv 2) pa_nil))) pa_nil))))
      (pss_cons (ps_asg (pe_c Cwalk_from hr (by decide) rfl (pa_cons (pv 0) (pa_cons (pv 1) pa_nil))) (pg_tup rfl (pgs_cons (pg_name (i := 3) sc_length_between.nd rfl (.inl rfl)) (pgs_cons (pg_name (i := 4) sc_length_between.nd rfl (.inl rfl)) pgs_nil))))
      (pss_one (ps_ret (pe_dget (hu_of hr) (pv 4) (pv 2) (fun _ _ => rfl)))))), ?_⟩
    refine ⟨_, rfl, _, rfl, _, rfl, (by show 2 ≤ sizeLine; decide), fun p np => ?_⟩
    have s1 := same_new (o := .tup [.str (S u), .str (S x)]) (Same.refl H) np
    refine ⟨v, p, pl, [u, x], ts, rfl, Dt.keep (TK.of s1) hd, upd_same, fun y hy => ?_, ?_⟩
    · rcases List.mem_cons.mp hy with z | z
      · exact z ▸ hu
      · exact (List.mem_singleton.mp z) ▸ hx
    refine ⟨_, rfl, _, rfl, v, pl, ts, u, rfl, Dt.keep (TK.of s1) hd, fine, hu, fun H1 g bk ln fs prev S1 W => ?_⟩
    refine ⟨g, _, rfl, SqT.of W.pair, rfl, _, _, rfl, _, _, rfl, rfl, ?_⟩
    exact ⟨_, rfl, _, rfl, ln, _, rfl, lens_body W hx rfl, q H1 (s1.trans S1)⟩
end
abbrev s_way_between : Stmt := topS 5
abbrev N_way_between : List Str := ["tree", "one", "other", "back", "_", "way"]
theorem sc_way_between : FnScope N_way_between ["tree", "one", "other"] (defScope s_way_between) := ⟨rfl, rfl, rfl, by decide +kernel, rfl, by decide +kernel, by decide +kernel⟩
section
variable {P : Program} {w : World} {K : PySem.W.Frag} {mg : Str → Option Value} {base : Heap}
def spWay : Sp := fun vs H Q _ => ∃ (v : V) (pl : List Nm) (ts : List Tie) (u x : Nm), vs = [v, .str (S u), .str (S x)] ∧ Dt H v (treeD pl ts) ∧ Fine pl ts ∧ u ∈ pl ∧ x ∈ pl ∧ ∀ (H' : Hp) (q : Addr), Same H H' → H q = none → H' q = some (.tup (((path ts u x).map S).map V.str)) → Q (.ref q) H'
theorem path_len {pl : List Nm} {ts : List Tie} (F : Fine pl ts) {u x : Nm} (hu : u ∈ pl) (hx : x ∈ pl) : (path ts u x).length ≤ 1000 := by
  have w := F.tree.the_way hu hx
  have := nodup_sub_len _ pl w.nodup (w.inside (fun e he => let ⟨a, b, _⟩ := F.tree.ties e he; ⟨a, b⟩) hu)
  have := F.len
  omega
theorem ok_way_between {f : Addr} {fd : FuncData} (F : Fun K "way_between" "way_between" s_way_between f fd) (T : TxtW mg) (Ccheck_places : Cal P w K mg base 1 "check_places" spCheck) (Cwalk_from : Cal P w K mg base 2 "walk_from" spWalk) : FnOk P w K mg base CX0 3 f fd ["tree", "one", "other"] spWay := by
  refine F.ok sc_way_between (fun vs H Q E h => ?_) (fun cdv A outer s H vs Q E hr h => ?_)
  · obtain ⟨v, pl, ts, u, x, rfl, _⟩ := h
    rfl
  · obtain ⟨v, pl, ts, u, x, rfl, hd, fine, hu, hx, q⟩ := h
    have tr := fine.tree
    refine ⟨_, (pss_cons (ps_expr (pe_c Ccheck_places hr (by decide) rfl (pa_cons (pv 0) (pa_cons (pe_tup (pa_cons (pv 1) (pa_cons (pv 2) pa_nil))) pa_nil))))
      (pss_cons (ps_asg (pe_c Cwalk_from hr (by decide) rfl (pa_cons (pv 0) (pa_cons (pv 2) pa_nil))) (pg_tup rfl (pgs_cons (pg_name (i := 3) sc_way_between.nd rfl (.inl rfl)) (pgs_cons (pg_name (i := 4) sc_way_between.nd rfl (.inl rfl)) pgs_nil))))
      (pss_cons (ps_set (i := 5) sc_way_between.nd rfl (.inl rfl) (pe_lst (pa_cons (pv 1) pa_nil)))
      (pss_cut (ps_while PassesOwn.never (pt_cmpR op_ne (pe_ix ix_list (pv 5) (pe_un un_neg pe_int) (fun _ _ => rfl)) (pv 2) (nomark _))
        (pss_one (ps_expr (pe_bm PySem.F.plainAttrs_list PySem.F.slot_list_append PySem.F.type_list_append mt_append (pv 5) (pa_cons (pe_dget (hu_of hr) (pv 3) (pe_ix ix_list (pv 5) (pe_un un_neg pe_int) (fun _ _ => rfl)) (fun _ _ => rfl)) pa_nil)))))
      (pss_one (ps_ret (pe_tupleOf (by rfl) T.tuple (pv 5)))))))), ?_⟩
    refine ⟨_, rfl, _, rfl, _, rfl, (by show 2 ≤ sizeLine; decide), fun p np => ?_⟩
    have s1 := same_new (o := .tup [.str (S u), .str (S x)]) (Same.refl H) np
    refine ⟨v, p, pl, [u, x], ts, rfl, Dt.keep (TK.of s1) hd, upd_same, fun y hy => ?_, ?_⟩
    · rcases List.mem_cons.mp hy with z | z
      · exact z ▸ hu
      · exact (List.mem_singleton.mp z) ▸ hx
    refine ⟨_, rfl, _, rfl, v, pl, ts, x, rfl, Dt.keep (TK.of s1) hd, fine, hx, fun H1 g bk ln fs prev S1 W => ?_⟩
    have s2 := s1.trans S1
    refine ⟨g, _, rfl, SqT.of W.pair, rfl, _, _, rfl, _, _, rfl, rfl, ?_⟩
    refine ⟨_, rfl, (by show 1 ≤ sizeLine; decide), fun wy nwy => ?_⟩
    have bw : bk ≠ wy := ne_of_none W.back nwy
    refine ⟨fun σ' H' => σ' = [some v, some (.str (S u)), some (.str (S x)), some (.ref bk), some (.ref ln), some (.ref wy)] ∧ H' = upd H1 wy (.lst (((path ts u x).map S).map V.str)), ?_, fun σ' H' hM => ?_⟩
    · refine ⟨fun m σ' H' => ∃ (w0 : List Nm) (y : Nm), σ' = [some v, some (.str (S u)), some (.str (S x)), some (.ref bk), some (.ref ln), some (.ref wy)] ∧ y ∈ pl ∧ H' = upd H1 wy (.lst ((((w0 ++ [y])).map S).map V.str)) ∧ w0 ++ (path ts x y).reverse = (path ts x u).reverse ∧ m = (path ts x y).length, ⟨_, [], u, rfl, hu, rfl, rfl, rfl⟩, ?_⟩
      rintro m σ' H' ⟨w0, y, rfl, hy, rfl, hw, rfl⟩
      have e1 : ((w0 ++ [y]).map S).map V.str = (w0.map S).map V.str ++ [.str (S y)] := by
        rw [List.map_append, List.map_append]
        rfl
      rw [e1]
      refine ⟨_, rfl, 1, rfl, wy, _, -1, .str (S y), rfl, rfl, SqL.of upd_same, atI_last _ _, _, rfl, rfl, _, rfl, ?_⟩
      have lw : w0.length ≤ 1000 := by
        have := congrArg List.length hw
        rw [List.length_append, List.length_reverse, List.length_reverse] at this
        have := path_len fine hx hu
        omega
      by_cases e : y = x
      · subst e
        rw [decide_eq_true rfl]
        refine iteF ⟨rfl, ?_⟩
        rw [← e1, (tr.dist_self y).2] at *
        have e3 : w0 ++ [y] = path ts u y := by
          rw [(tr.dist_symm hx hu).2, ← hw]
          rfl
        rw [e3]
      · rw [decide_eq_false (fun z => e (SX.S_inj (V.str.inj z)))]
        obtain ⟨p1, p2⟩ := W.pr y ((W.all y).mpr hy) e
        refine iteT ⟨fun σ' H' => ∃ (w0' : List Nm) (y' : Nm), σ' = [some v, some (.str (S u)), some (.str (S x)), some (.ref bk), some (.ref ln), some (.ref wy)] ∧ y' ∈ pl ∧ H' = upd H1 wy (.lst ((((w0' ++ [y'])).map S).map V.str)) ∧ w0' ++ (path ts x y').reverse = (path ts x u).reverse ∧ (path ts x y').length < (path ts x y).length, ?_, ?_⟩
        · rintro σ' H' ⟨w0', y', h1, h2, h3, h4, h5⟩
          exact ⟨_, h5, w0', y', h1, h2, h3, h4, rfl⟩
        · have hb : DGet (upd H1 wy (.lst ((w0.map S).map V.str ++ [.str (S y)]))) bk (.str (S y)) (some (.str (S (prev y)))) := by
            have e5 : (upd H1 wy (.lst ((w0.map S).map V.str ++ [V.str (S y)]))) bk = some (.dK (dkm fs fun x => .str (S (prev x)))) := by
              rw [upd_ne bw]
              exact W.back
            have := DGet.k (k := Sum.inr (S y)) e5
            rw [dkm_get ((W.all y).mpr hy)] at this
            exact this
          refine ⟨_, rfl, .inl ⟨rfl, _, SqL.of upd_same⟩, _, rfl, _, rfl, 1, rfl, wy, _, -1, .str (S y), rfl, rfl, SqL.of upd_same, atI_last _ _, bk, _, rfl, hb, wy, _, _, rfl, rfl, upd_same, by rw [List.length_append, List.length_map, List.length_map]; exact sz_lt (by simp; omega), ?_⟩
          refine ⟨w0 ++ [y], prev y, rfl, (W.all _).mp p1, ?_, ?_, ?_⟩
          · have e6 : (((w0 ++ [y]) ++ [prev y]).map S).map V.str = ((w0 ++ [y]).map S).map V.str ++ [.str (S (prev y))] := by
              rw [List.map_append, List.map_append]
              rfl
            rw [upd_upd, ← e1, e6]
          · rw [← hw, p2, List.reverse_append]
            simp
          · rw [p2]
            simp
    · obtain ⟨rfl, rfl⟩ := hM
      have s3 := same_new (o := .lst (((path ts u x).map S).map V.str)) s2 nwy
      refine ⟨_, rfl, .inl ⟨wy, _, rfl, SqL.of upd_same, fun r nr => ?_⟩⟩
      exact q _ r (same_new s3 nr) (s3.free nr) upd_same
end
end Far

namespace Far
open PySem PySem.Spec PyProof.Rows L2
open C8 (pss_cut tCut)
open SX (S)
theorem hd65 {A : Around} {k : Nat} (hr : Room k A) (h : 2 ≤ k) : A.units + 65 < cLine := by
  have := hr.un
  omega
/-! ### a class of one's own: its methods, which may raise, its making -/
def pd (z : Nm × Nm) : PyData := .tuple [strD z.1, strD z.2]
theorem pd_eqv {x y : Nm × Nm} : PyData.eqv (pd x) (pd y) = true ↔ x = y := by
  obtain ⟨a, b⟩ := x
  obtain ⟨c, d⟩ := y
  show (S a == S c && (S b == S d && true)) = true ↔ _
  rw [Bool.and_true, Bool.and_eq_true, beq_iff_eq, beq_iff_eq]
  constructor
  · rintro ⟨h1, h2⟩
    rw [SX.S_inj h1, SX.S_inj h2]
  · intro h
    cases h
    exact ⟨rfl, rfl⟩
theorem pd_lay : ∀ {zs : List (Nm × Nm)}, (∀ z ∈ zs, NameOk z.1 ∧ NameOk z.2) → PyData.canLayAll0 (zs.map pd) = true ∧ PyData.depthAll (zs.map pd) ≤ 1
  | [], _ => ⟨rfl, Nat.zero_le _⟩
  | z :: r, h => by
    obtain ⟨h1, h2⟩ := h z (List.mem_cons_self ..)
    obtain ⟨i1, i2⟩ := pd_lay (zs := r) fun y hy => h y (List.mem_cons_of_mem _ hy)
    constructor
    · show ((PyData.strOk (S z.1) && (PyData.strOk (S z.2) && true)) && PyData.canLayAll0 (r.map pd)) = true
      rw [strOk_S h1, strOk_S h2, i1]
      rfl
    · show max (max 0 (max 0 0) + 1) (PyData.depthAll (r.map pd)) ≤ 1
      omega
theorem pd_shaped {zs : List (Nm × Nm)} (h : ∀ z ∈ zs, NameOk z.1 ∧ NameOk z.2) : SeqAt.shaped (.list (zs.map pd)) = true := by
  obtain ⟨i1, i2⟩ := pd_lay h
  show (PyData.canLayAll0 (zs.map pd) && decide (PyData.depthAll (zs.map pd) + 1 ≤ 64)) = true
  rw [i1, decide_eq_true (by omega)]
  rfl
theorem any_pd {zs : List (Nm × Nm)} {z : Nm × Nm} : ((zs.map pd).any fun y => PyData.eqv y (pd z)) = decide (z ∈ zs) := by
  by_cases h : z ∈ zs
  · rw [decide_eq_true h]
    exact List.any_eq_true.mpr ⟨pd z, List.mem_map_of_mem h, pd_eqv.mpr rfl⟩
  · rw [decide_eq_false h]
    refine Bool.eq_false_iff.mpr fun q => ?_
    obtain ⟨y, hy, e⟩ := List.any_eq_true.mp q
    obtain ⟨x, hx, rfl⟩ := List.mem_map.mp hy
    exact h (pd_eqv.mp e ▸ hx)
/-- x in t, t a tuple of data of any depth -/
def rInT (K : PySem.W.Frag) : R2 := fun x y H Q => ∃ d ds, Dp K H x d ∧ Dp K H y (.tuple ds) ∧ SeqAt.shaped d = true ∧ SeqAt.shaped (.tuple ds) = true ∧ Q (.bl (ds.any fun z => PyData.eqv z d)) H
theorem op_inT {X : Cx} (hu : X.A.units + 65 < cLine) : OpR X (compareOp .In) (rInT X.K) := by
  intro pins s σ H x y v u Q I rx ry h
  obtain ⟨d, ds, hd, he, sd, se, q⟩ := h
  obtain ⟨as, r1⟩ := Dp.reads I d x v hd rx
  obtain ⟨bs, r2⟩ := Dp.reads I (.tuple ds) y u he ry
  exact SeqAt.in_tuple_reads r2 r1 (SeqAt.canLay_of_shaped se) (SeqAt.canLay_of_shaped sd) (room_in_shaped sd hu) ⟨.bl _, H, I, rfl, q⟩
theorem pd_shapedT {zs : List (Nm × Nm)} (h : ∀ z ∈ zs, NameOk z.1 ∧ NameOk z.2) : SeqAt.shaped (.tuple (zs.map pd)) = true := by
  obtain ⟨i1, i2⟩ := pd_lay h
  show (PyData.canLayAll0 (zs.map pd) && decide (PyData.depthAll (zs.map pd) + 1 ≤ 64)) = true
  rw [i1, decide_eq_true (by omega)]
  rfl
theorem pd_one {z : Nm × Nm} (h : NameOk z.1 ∧ NameOk z.2) : SeqAt.shaped (pd z) = true := by
  show (((PyData.strOk (S z.1) && (PyData.strOk (S z.2) && true))) && decide (max 0 (max 0 0) + 1 ≤ 64)) = true
  rw [strOk_S h.1, strOk_S h.2]
  rfl

theorem iteF' {A B : Prop} {b : Bool} (e : b = false) (h : B) : if b = true then A else B := by
  rw [e]
  exact iteF h
theorem iteT' {A B : Prop} {b : Bool} (e : b = true) (h : A) : if b = true then A else B := by
  rw [e]
  exact iteT h
theorem tie_at {H : Hp} {i : Nat} {vs : List V} {ts : List Tie} {v : V} (h : DtAll H vs (ts.map tieD)) (hi : vs[i]? = some v) : ∃ (t : Tie) (p : Addr), ts[i]? = some t ∧ v = .ref p ∧ H p = some (.tup [.str (S t.1), .str (S t.2.1), .int t.2.2]) := by
  obtain ⟨d, hd, hv⟩ := DtAll.get h hi
  rw [List.getElem?_map] at hd
  cases e : ts[i]? with
  | none =>
    rw [e] at hd
    cases hd
  | some t =>
    rw [e] at hd
    have ed : d = tieD t := (Option.some.inj hd).symm
    subst ed
    obtain ⟨p, rfl, hp⟩ := dt_tie hv
    exact ⟨t, p, rfl, rfl, hp⟩
theorem idx_at {pl : List Nm} (nd : pl.Nodup) {y : Nm} (hy : y ∈ pl) : (pl.map S)[pl.idxOf y]? = some (S y) ∧ ∀ i, i < pl.idxOf y → (pl.map S)[i]? ≠ some (S y) := by
  have h1 : pl.idxOf y < pl.length := List.idxOf_lt_length_of_mem hy
  have h2 : pl[pl.idxOf y] = y := List.getElem_idxOf h1
  refine ⟨by rw [List.getElem?_map, List.getElem?_eq_getElem h1, h2]; rfl, fun i hi h => ?_⟩
  rw [List.getElem?_map, List.getElem?_eq_getElem (by omega)] at h
  have h3 : pl[i] = y := SX.S_inj (Option.some.inj h)
  have := (List.getElem_inj nd).mp (h3.trans h2.symm)
  omega
structure TxtH (mg : Str → Option Value) : Prop where
  len : mg "len" = none
  gcd : mg "gcd" = some (.builtin "math.gcd")
  zip : mg "zip" = none
  min : mg "min" = none
  max : mg "max" = none
/-- a point: its one, its other, the above and the below of its part -/
abbrev Pt := Nm × Nm × Int × Int
def ptD (p : Pt) : PyData := .tuple [strD p.1, strD p.2.1, .tuple [.int p.2.2.1, .int p.2.2.2]]
def joins (a b : Nm) (t : Tie) : Bool := decide ((t.1, t.2.1) ∈ [(a, b), (b, a)])
def isPt (pl : List Nm) (ts : List Tie) (p : Pt) : Bool :=
  if p.1 = p.2.1 then decide (p.1 ∈ pl) && decide (p.2.2 = (0, 1))
  else if p.2.2.2 < 1 then false
  else if ((Nat.gcd p.2.2.1.natAbs p.2.2.2.natAbs : Nat) : Int) ≠ 1 then false
  else match ts.find? (joins p.1 p.2.1) with
    | none => false
    | some t => decide (0 < p.2.2.1) && decide (p.2.2.1 < t.2.2 * p.2.2.2) && decide (pl.idxOf p.1 < pl.idxOf p.2.1)
theorem dt_pt {H : Hp} {v : V} {p : Pt} (h : Dt H v (ptD p)) : ∃ g r : Addr, v = .ref g ∧ H g = some (.tup [.str (S p.1), .str (S p.2.1), .ref r]) ∧ H r = some (.tup [.int p.2.2.1, .int p.2.2.2]) := by
  obtain ⟨t, xs, rfl, ht, hs⟩ := dt_tup h fun _ => ⟨.tuple [.int p.2.2.1, .int p.2.2.2], by simp, fun l z => nomatch z⟩
  cases hs with
  | cons h1 hr =>
    cases hr with
    | cons h2 hr =>
      cases hr with
      | cons h3 hr =>
        cases hr
        cases h1
        cases h2
        obtain ⟨r, ys, rfl, hr2, hs2⟩ := dt_tup h3 fun _ => ⟨.int p.2.2.1, by simp, fun l z => nomatch z⟩
        cases hs2 with
        | cons h1 hr =>
          cases hr with
          | cons h2 hr =>
            cases hr
            cases h1
            cases h2
            exact ⟨t, r, rfl, ht, hr2⟩
abbrev s_is_point : Stmt := topS 22
abbrev N_is_point : List Str := ["tree", "point", "places", "ties", "one", "other", "part", "above", "below", "first", "second", "length"]
theorem sc_is_point : FnScope N_is_point ["tree", "point"] (defScope s_is_point) := ⟨rfl, rfl, rfl, by decide +kernel, rfl, by decide +kernel, by decide +kernel⟩
section
variable {P : Program} {w : World} {K : PySem.W.Frag} {mg : Str → Option Value} {base : Heap}
def spIsPt : Sp := fun vs H Q _ => ∃ (v u : V) (pl : List Nm) (ts : List Tie) (p : Pt), vs = [v, u] ∧ Dt H v (treeD pl ts) ∧ PlZ H v pl ∧ Fine pl ts ∧ Dt H u (ptD p) ∧ NameOk p.1 ∧ NameOk p.2.1 ∧ ∀ H' : Hp, Same H H' → Q (.bl (isPt pl ts p)) H'
theorem ok_is_point {f : Addr} {fd : FuncData} (F : Fun K "_is_point" "_is_point" s_is_point f fd) (T : TxtH mg) : FnOk P w K mg base CX0 3 f fd ["tree", "point"] spIsPt := by
  refine F.ok sc_is_point (fun vs H Q E h => ?_) (fun cdv A outer s H vs Q E hr h => ?_)
  · obtain ⟨v, u, pl, ts, p, rfl, _⟩ := h
    rfl
  · obtain ⟨v, u, pl, ts, ⟨one, other, above, below⟩, rfl, hd, hz, fine, hu, n1, n2, q⟩ := h
    obtain ⟨t, a, b, vs, rfl, ht, ha, hb', hA⟩ := dt_tree hd
    obtain ⟨g, r, rfl, hg, hr2⟩ := dt_pt hu
    dsimp only at n1 n2 hg hr2
    obtain ⟨t0, a0, b0, o, e0, ht0, od, haz⟩ := hz
    cases e0
    cases Option.some.inj (ht0.symm.trans ht)
    have fin : ∀ (b : Bool) (H' : Hp), isPt pl ts (one, other, above, below) = b → Same H H' → Q (.bl b) H' := fun b H' e S => by
      rw [← e]
      exact q H' S
    refine ⟨_, (pss_cons (ps_asg (pv 0) (pg_tup rfl (pgs_cons (pg_name (i := 2) sc_is_point.nd rfl (.inl rfl)) (pgs_cons (pg_name (i := 3) sc_is_point.nd rfl (.inl rfl)) pgs_nil))))
      (pss_cons (ps_asg (pv 1) (pg_tup rfl (pgs_cons (pg_name (i := 4) sc_is_point.nd rfl (.inl rfl)) (pgs_cons (pg_name (i := 5) sc_is_point.nd rfl (.inl rfl)) (pgs_cons (pg_name (i := 6) sc_is_point.nd rfl (.inl rfl)) pgs_nil)))))
      (pss_cut (ps_if (pt_cmpR op_eq (pv 4) (pv 5) (nomark _))
        (pss_one (ps_ret (pe_and (pe_cmpR op_in_seq (pv 4) (pv 2) rfl) (pe_one (pe_cmpR (op_eqD (hd_of hr (by decide))) (pv 6) (pe_tup (pa_cons pe_int (pa_cons pe_int pa_nil))) (nomark _))))))
        pss_nil)
      (pss_cons (ps_asg (pv 6) (pg_tup rfl (pgs_cons (pg_name (i := 7) sc_is_point.nd rfl (.inl rfl)) (pgs_cons (pg_name (i := 8) sc_is_point.nd rfl (.inl rfl)) pgs_nil))))
      (pss_cut (ps_if (PW.pt (pw_or (pt_cmpR op_lt (pv 8) pe_int (nomark _)) (pw_or1 (pt_cmpR op_ne (pe_callBfun cr_gcd (by rfl) T.gcd (pa_cons (pv 7) (pa_cons (pv 8) pa_nil))) pe_int (nomark _)))))
        (pss_one (ps_ret pe_bl))
        pss_nil)
      (pss_cut (ps_for PassesOwn.never rfl (pi_tup (pv 3)) (pg_tup rfl (pgs_cons (pg_name (i := 9) sc_is_point.nd rfl (.inl rfl)) (pgs_cons (pg_name (i := 10) sc_is_point.nd rfl (.inl rfl)) (pgs_cons (pg_name (i := 11) sc_is_point.nd rfl (.inl rfl)) pgs_nil))))
        (pss_one (ps_if (pt_cmpR (op_inT (hd65 hr (by decide))) (pe_tup (pa_cons (pv 9) (pa_cons (pv 10) pa_nil))) (pe_tup (pa_cons (pe_tup (pa_cons (pv 4) (pa_cons (pv 5) pa_nil))) (pa_cons (pe_tup (pa_cons (pv 5) (pa_cons (pv 4) pa_nil))) pa_nil))) rfl)
          (pss_one (ps_ret (pe_and (pe_chain op_lt op_lt pe_int (pv 7) (pe_op op_mul (pv 11) (pv 8))) (pe_one (pe_cmpR op_lt (pe_ixZ (pv 2) (pv 4)) (pe_ixZ (pv 2) (pv 5)) (nomark _))))))
          pss_nil)))
      (pss_one (ps_ret pe_bl)))))))), ?_⟩
    refine ⟨_, rfl, t, _, rfl, SqT.of ht, rfl, _, _, rfl, _, _, rfl, rfl, ?_⟩
    refine ⟨_, rfl, g, _, rfl, SqT.of hg, rfl, _, _, rfl, _, _, rfl, _, _, rfl, rfl, ?_⟩
    refine ⟨fun σ' H' => one ≠ other ∧ σ' = [some (.ref t), some (.ref g), some (.ref a), some (.ref b), some (.str (S one)), some (.str (S other)), some (.ref r), none, none, none, none, none] ∧ H' = H, ?_, fun σ' H' hM => ?_⟩
    · refine ⟨_, rfl, _, rfl, rfl, _, rfl, ?_⟩
      by_cases c : one = other
      · subst c
        refine iteT' (decide_eq_true rfl) ?_
        refine ⟨_, rfl, _, rfl, a, _, rfl, .inr ha.sq, rfl, flat_strs pl, _, rfl, ?_⟩
        rw [inV_strs]
        by_cases c1 : one ∈ pl
        · rw [decide_eq_true c1]
          refine iteT ?_
          refine ⟨_, rfl, (by show 2 ≤ sizeLine; decide), fun e ne => ?_⟩
          have tke := TK.new (o := .tup [.int 0, .int 1]) ne
          refine ⟨.tuple [.int above, .int below], .tuple [.int 0, .int 1], Dt.dp (.tup (tke.tup _ _ hr2) (.cons (.int _) (.cons (.int _) .nil))), Dt.dp (.tup upd_same (.cons (.int _) (.cons (.int _) .nil))), rfl, rfl, ?_⟩
          refine fin _ _ ?_ (same_new (Same.refl H) ne)
          unfold isPt
          rw [if_pos rfl, decide_eq_true c1, Bool.true_and]
          show _ = ((above == 0) && ((below == 1) && true))
          rw [Bool.and_true, Bool.eq_iff_iff, decide_eq_true_eq, Bool.and_eq_true, beq_iff_eq, beq_iff_eq]
          exact Prod.mk.injEq .. ▸ Iff.rfl
        · rw [decide_eq_false c1]
          refine iteF (fin _ _ ?_ (Same.refl H))
          unfold isPt
          rw [if_pos rfl, decide_eq_false c1]
          rfl
      · exact iteF' (decide_eq_false fun z => c (SX.S_inj (V.str.inj z))) ⟨c, rfl, rfl⟩
    · obtain ⟨c, rfl, rfl⟩ := hM
      refine ⟨_, rfl, r, _, rfl, SqT.of hr2, rfl, _, _, rfl, _, _, rfl, rfl, ?_⟩
      refine ⟨fun σ' H'' => ¬ below < 1 ∧ ((Nat.gcd above.natAbs below.natAbs : Nat) : Int) = 1 ∧ σ' = [some (.ref t), some (.ref g), some (.ref a), some (.ref b), some (.str (S one)), some (.str (S other)), some (.ref r), some (.int above), some (.int below), none, none, none] ∧ H'' = H', ?_, fun σ' H'' hM => ?_⟩
      · refine ⟨_, rfl, _, _, rfl, rfl, _, rfl, ?_⟩
        by_cases c1 : below < 1
        · refine iteT' (decide_eq_true c1) ?_
          refine iteT (fin _ _ ?_ (Same.refl _))
          unfold isPt
          rw [if_neg c, if_pos c1]
        · refine iteF' (decide_eq_false c1) ?_
          refine ⟨_, rfl, _, rfl, above, below, rfl, ?_⟩
          refine ⟨rfl, _, rfl, ?_⟩
          by_cases c2 : ((Nat.gcd above.natAbs below.natAbs : Nat) : Int) = 1
          · refine iteF' ?_ ⟨c1, c2, rfl, rfl⟩
            rw [c2]
            rfl
          · refine iteT' ?_ (fin _ _ ?_ (Same.refl _))
            · rw [decide_eq_false fun z => c2 (V.int.inj z)]
              rfl
            · unfold isPt
              rw [if_neg c, if_neg c1, if_pos c2]
      · obtain ⟨c1, c2, rfl, rfl⟩ := hM
        have eP : isPt pl ts (one, other, above, below) = match ts.find? (joins one other) with
            | none => false
            | some t => decide (0 < above) && decide (above < t.2.2 * below) && decide (pl.idxOf one < pl.idxOf other) := by
          unfold isPt
          rw [if_neg c, if_neg c1, if_neg (fun z => z c2)]
        refine ⟨fun σ' H4 => ts.find? (joins one other) = none ∧ Same H'' H4, ?_, fun σ' H4 hM => ?_⟩
        rotate_left
        · refine fin _ _ ?_ hM.2
          rw [eP, hM.1]
        · refine ⟨_, rfl, b, rfl, ⟨_, SqT.of hb'⟩, for_tup (K := K) (a := b) (xs := vs) (fun i σ' H4 => (∃ x9 x10 x11, σ' = [some (.ref t), some (.ref g), some (.ref a), some (.ref b), some (.str (S one)), some (.str (S other)), some (.ref r), some (.int above), some (.int below), x9, x10, x11]) ∧ Same H'' H4 ∧ (ts.take i).find? (joins one other) = none) ⟨⟨_, _, _, rfl⟩, Same.refl _, rfl⟩ (fun i σ' H4 _ hP => SqT.of (hP.2.1 _ _ hb')) (fun i x σ' H4 hi hP => ?_) (fun σ' H4 hP => ?_)⟩
          · obtain ⟨⟨x9, x10, x11, rfl⟩, S4, hn⟩ := hP
            obtain ⟨t3, p3, ht3, rfl, hp3⟩ := tie_at (DtAll.keep (TK.of S4) hA) hi
            have et : ts.take (i + 1) = ts.take i ++ [t3] := by rw [List.take_add_one, ht3]; rfl
            have mt : t3 ∈ ts := List.mem_of_getElem? ht3
            have ti := fine.tree.ties t3 mt
            refine ⟨p3, _, rfl, SqT.of hp3, rfl, _, _, rfl, _, _, rfl, _, _, rfl, rfl, ?_⟩
            refine ⟨_, rfl, _, rfl, (by show 2 ≤ sizeLine; decide), fun e1 ne1 => ?_⟩
            refine ⟨_, rfl, _, rfl, (by show 2 ≤ sizeLine; decide), fun e2 ne2 => ?_⟩
            refine ⟨_, rfl, _, rfl, (by show 2 ≤ sizeLine; decide), fun e3 ne3 => ⟨(by show 2 ≤ sizeLine; decide), fun e4 ne4 => ?_⟩⟩
            have S8 := same_new (o := .tup [.ref e2, .ref e3]) (same_new (o := .tup [.str (S other), .str (S one)]) (same_new (o := .tup [.str (S one), .str (S other)]) (same_new (o := .tup [.str (S t3.1), .str (S t3.2.1)]) S4 ne1) ne2) ne3) ne4
            have t4 := TK.new (o := .tup [.ref e2, .ref e3]) ne4
            have t3' := (TK.new (o := .tup [.str (S other), .str (S one)]) ne3).trans t4
            have t2 := (TK.new (o := .tup [.str (S one), .str (S other)]) ne2).trans t3'
            refine ⟨pd (t3.1, t3.2.1), [(one, other), (other, one)].map pd, Dt.dp (.tup (t2.tup _ _ upd_same) (.cons (.str _) (.cons (.str _) .nil))), Dt.dp (.tup upd_same (.cons (.tup (t3'.tup _ _ upd_same) (.cons (.str _) (.cons (.str _) .nil))) (.cons (.tup (t4.tup _ _ upd_same) (.cons (.str _) (.cons (.str _) .nil))) .nil))), pd_one ⟨fine.ok _ ti.1, fine.ok _ ti.2.1⟩, pd_shapedT (fun z hz => ?_), ?_⟩
            · simp only [List.mem_cons, List.not_mem_nil, or_false] at hz
              rcases hz with e | e <;> subst e
              · exact ⟨n1, n2⟩
              · exact ⟨n2, n1⟩
            rw [any_pd]
            generalize upd (upd (upd (upd H4 e1 (.tup [.str (S t3.1), .str (S t3.2.1)])) e2 (.tup [.str (S one), .str (S other)])) e3 (.tup [.str (S other), .str (S one)])) e4 (.tup [.ref e2, .ref e3]) = H8 at S8
            refine ⟨_, rfl, ?_⟩
            by_cases c3 : joins one other t3 = true
            · refine iteT' c3 ?_
              have hf : ts.find? (joins one other) = some t3 := by
                have e1 := List.take_append_drop (i + 1) ts
                rw [← e1, List.find?_append, et, List.find?_append, hn]
                simp [c3]
              have mo : one ∈ pl ∧ other ∈ pl := by
                unfold joins at c3
                have c4 := of_decide_eq_true c3
                simp only [List.mem_cons, List.not_mem_nil, or_false] at c4
                rcases c4 with e | e
                · have e1 : t3.1 = one := congrArg Prod.fst e
                  have e2 : t3.2.1 = other := congrArg Prod.snd e
                  exact ⟨e1 ▸ ti.1, e2 ▸ ti.2.1⟩
                · have e1 : t3.1 = other := congrArg Prod.fst e
                  have e2 : t3.2.1 = one := congrArg Prod.snd e
                  exact ⟨e2 ▸ ti.2.1, e1 ▸ ti.1⟩
              have e3 : isPt pl ts (one, other, above, below) = (decide (0 < above) && decide (above < t3.2.2 * below) && decide (pl.idxOf one < pl.idxOf other)) := by rw [eP, hf]
              refine ⟨_, rfl, _, _, rfl, rfl, _, rfl, ?_⟩
              by_cases d1 : 0 < above
              · refine iteT' (decide_eq_true d1) ?_
                refine ⟨_, rfl, _, rfl, _, _, rfl, rfl, ?_, _, _, rfl, rfl, _, rfl, ?_⟩
                · have h1 := ti.2.2.1
                  have h2 := ti.2.2.2
                  exact .inl ⟨by omega, by omega⟩
                by_cases d2 : above < t3.2.2 * below
                · refine iteT' (decide_eq_true d2) ?_
                  obtain ⟨i1, i2⟩ := idx_at fine.tree.nodup mo.1
                  obtain ⟨j1, j2⟩ := idx_at fine.tree.nodup mo.2
                  have ha8 := S8 _ _ haz
                  refine ⟨_, rfl, a, _, o, rfl, od, ha8, _, rfl, rfl, _, _, rfl, i1, i2, ?_⟩
                  refine ⟨_, rfl, a, _, o, rfl, od, ha8, _, rfl, rfl, _, _, rfl, j1, j2, _, _, rfl, rfl, ?_⟩
                  refine fin _ _ ?_ S8
                  rw [e3, decide_eq_true d1, decide_eq_true d2, Bool.true_and, Bool.true_and]
                  exact decide_eq_decide.mpr (by omega)
                · refine iteF' (decide_eq_false d2) (fin _ _ ?_ S8)
                  rw [e3, decide_eq_false d2, Bool.and_false, Bool.false_and]
              · refine iteF' (decide_eq_false d1) ?_
                refine ⟨_, rfl, ?_⟩
                refine iteF (fin _ _ ?_ S8)
                rw [e3, decide_eq_false d1, Bool.false_and, Bool.false_and]
            · refine iteF' (Bool.eq_false_iff.mpr c3) ⟨⟨_, _, _, rfl⟩, S8, ?_⟩
              rw [et, List.find?_append, hn]
              simp [c3]
          · obtain ⟨_, S4, hn⟩ := hP
            have vl : vs.length = ts.length := by
              have := DtAll.len hA
              rwa [List.length_map] at this
            rw [vl, List.take_length] at hn
            exact ⟨hn, S4⟩
end
end Far

namespace Far
open PySem PySem.Spec PyProof.Rows PyProof.V L2
/-! ### max, min, sum of a tuple of whole numbers -/
section
variable {prog : Program} {w : World} {A : Around} {E : Value → Shared → Prop} {s : Shared} {t : Addr} {xs : Array (Int × Tok)}
theorem iter_intTup {Q : Value → Shared → Prop} (hl : s.heap.IsTuple t (intItems xs))
    (h : ∀ s₂ : Shared, s₂ = { s with heap := s.heap.push { cls := .type "tuple_iterator", data := .fields #[.ref t, .int 0 0] } } →
      (s₂.heap.IsTupleIter s.heap.objs.size t 0 ∧ s₂.heap.IsTuple t (intItems xs)) → (∀ b ∈ [s.heap.objs.size, t], b < s₂.heap.objs.size) → t ≠ s.heap.objs.size → Q (.ref s.heap.objs.size) s₂) : wpAny (model prog w) A (pyIter (.ref t)) Q E s := by
  have hlt : t < s.heap.objs.size := by obtain ⟨_, e, _⟩ := hl; exact Heap.lt_size e
  refine wpAny_pyIter_tuple hl (h _ rfl ⟨⟨_, Heap.get?_push_size _ rfl, rfl, rfl⟩, hl.at fun o e => Heap.get?_push_of_some _ e⟩ (fun b hb => ?_) (Nat.ne_of_lt hlt))
  show b < (s.heap.push _).objs.size
  rw [Heap.size_push]
  rcases List.mem_cons.mp hb with rfl | hb
  · exact Nat.lt_succ_self _
  · rcases List.mem_cons.mp hb with rfl | hb
    · exact Nat.lt_succ_of_lt hlt
    · cases hb
theorem old_keptT {s : Shared} {o : Obj} {h' : Heap} (k : ∀ b o', b ∉ [s.heap.objs.size] → (s.heap.push o).get? b = some o' → h'.get? b = some o') : ∀ b o', s.heap.get? b = some o' → h'.get? b = some o' :=
  fun b o' e => k b o' (fun hb => absurd (Heap.lt_size e) ((List.mem_singleton.mp hb) ▸ Nat.lt_irrefl _)) (Heap.get?_push_of_some _ e)
theorem max_intTup {Q : Value → Shared → Prop} (hh : A.handled = none) (hl : s.heap.IsTuple t (intItems xs)) (hne : 0 < xs.size)
    (h : ∀ v h' tk, (intItems xs)[argBest (fun i j => decide (numAt xs i > numAt xs j)) (xs.size - 1)]? = some v → (∀ b o, s.heap.get? b = some o → h'.get? b = some o) → Q v { s with heap := h', toks := tk }) :
    wpAny (model prog w) A (call (.builtin "max") [.ref t]) Q E s := by
  refine call_max_walk (iter_intTup hl fun s₂ e st hfp hlI => ?_)
  subst e
  refine ⟨_, _, _, _, _, _, _, rfl, Walks.tuple (A := A.in1) hh _ t hlI (intItems xs), st, hfp, by simpa [intItems] using hne, CmpOf.ints_gt (numAt xs) (fun _ _ => intItems_at), fun v h' tk hP hk => ?_⟩
  exact h v h' tk (by simpa [intItems] using hP) (old_keptT hk)
theorem min_intTup {Q : Value → Shared → Prop} (hh : A.handled = none) (hl : s.heap.IsTuple t (intItems xs)) (hne : 0 < xs.size)
    (h : ∀ v h' tk, (intItems xs)[argBest (fun i j => decide (numAt xs i < numAt xs j)) (xs.size - 1)]? = some v → (∀ b o, s.heap.get? b = some o → h'.get? b = some o) → Q v { s with heap := h', toks := tk }) :
    wpAny (model prog w) A (call (.builtin "min") [.ref t]) Q E s := by
  refine call_min_walk (iter_intTup hl fun s₂ e st hfp hlI => ?_)
  subst e
  refine ⟨_, _, _, _, _, _, _, rfl, Walks.tuple (A := A.in1) hh _ t hlI (intItems xs), st, hfp, by simpa [intItems] using hne, CmpOf.ints_lt (numAt xs) (fun _ _ => intItems_at), fun v h' tk hP hk => ?_⟩
  exact h v h' tk (by simpa [intItems] using hP) (old_keptT hk)
variable {its : List Value} {ns : List Int}
theorem maxT_raw {Q : Value → Shared → Prop} (hh : A.handled = none) (hl : s.heap.IsTuple t its.toArray) (hi : IntsAre its ns) (hne : 0 < ns.length)
    (h : ∀ h' tk M t', (∀ b o, s.heap.get? b = some o → h'.get? b = some o) → M ∈ ns → (∀ a, a ∈ ns → a ≤ M) → Q (.int M t') { s with heap := h', toks := tk }) : wpAny (model prog w) A (call (.builtin "max") [.ref t]) Q E s := by
  obtain ⟨xs, e⟩ := hi.allInts.items
  have hn : numsOf (intItems xs).toList = ns := by rw [← e]; exact hi.numsOf
  rw [nums_intItems] at hn
  subst hn
  rw [e] at hl
  have hsz : 0 < xs.size := by simpa using hne
  refine max_intTup hh hl hsz fun v h' tk hv hk => ?_
  obtain ⟨t, rfl⟩ := intItems_at hv
  obtain ⟨h1, h2⟩ := argBest_gt (numAt xs) (xs.size - 1)
  refine h h' tk _ t hk ?_ fun a ha => ?_
  · rw [numAt_eq]; exact PySem.getD_mem (by rw [List.length_map, Array.length_toList]; omega)
  · obtain ⟨j, hj, rfl⟩ := mem_getD ha
    rw [List.length_map, Array.length_toList] at hj
    rw [← numAt_eq]; exact h2 j (by omega)
theorem minT_raw {Q : Value → Shared → Prop} (hh : A.handled = none) (hl : s.heap.IsTuple t its.toArray) (hi : IntsAre its ns) (hne : 0 < ns.length)
    (h : ∀ h' tk M t', (∀ b o, s.heap.get? b = some o → h'.get? b = some o) → M ∈ ns → (∀ a, a ∈ ns → M ≤ a) → Q (.int M t') { s with heap := h', toks := tk }) : wpAny (model prog w) A (call (.builtin "min") [.ref t]) Q E s := by
  obtain ⟨xs, e⟩ := hi.allInts.items
  have hn : numsOf (intItems xs).toList = ns := by rw [← e]; exact hi.numsOf
  rw [nums_intItems] at hn
  subst hn
  rw [e] at hl
  have hsz : 0 < xs.size := by simpa using hne
  refine min_intTup hh hl hsz fun v h' tk hv hk => ?_
  obtain ⟨t, rfl⟩ := intItems_at hv
  obtain ⟨h1, h2⟩ := argBest_lt (numAt xs) (xs.size - 1)
  refine h h' tk _ t hk ?_ fun a ha => ?_
  · rw [numAt_eq]; exact PySem.getD_mem (by rw [List.length_map, Array.length_toList]; omega)
  · obtain ⟨j, hj, rfl⟩ := mem_getD ha
    rw [List.length_map, Array.length_toList] at hj
    rw [← numAt_eq]; exact h2 j (by omega)
theorem sumT_raw {Q : Value → Shared → Prop} (hh : A.handled = none) (hl : s.heap.IsTuple t its.toArray) (hi : IntsAre its ns)
    (h : ∀ h' tk t', (∀ b o, s.heap.get? b = some o → h'.get? b = some o) → Q (.int ns.sum t') { s with heap := h', toks := tk }) : wpAny (model prog w) A (call (.builtin "sum") [.ref t]) Q E s := by
  obtain ⟨xs, e⟩ := hi.allInts.items
  have hn : numsOf (intItems xs).toList = ns := by rw [← e]; exact hi.numsOf
  rw [nums_intItems] at hn
  rw [e] at hl
  refine PySem.W.ktm_sumG hh hl fun h' tk t' hk => ?_
  have := h h' tk t' hk
  rw [preSum_eq, List.take_of_length_le (by simp), hn]; exact this
end
section
variable {X : Cx}
def rMaxT (K : PySem.W.Frag) : List V → Hp → VK → Prop := fun vs H Q => ∃ (a : Addr) (ns : List Int), vs = [V.ref a] ∧ SqT K H a (ns.map V.int) ∧ 0 < ns.length ∧ ∀ m, m ∈ ns → (∀ y, y ∈ ns → y ≤ m) → Q (.int m) H
def rMinT (K : PySem.W.Frag) : List V → Hp → VK → Prop := fun vs H Q => ∃ (a : Addr) (ns : List Int), vs = [V.ref a] ∧ SqT K H a (ns.map V.int) ∧ 0 < ns.length ∧ ∀ m, m ∈ ns → (∀ y, y ∈ ns → m ≤ y) → Q (.int m) H
def rSumT (K : PySem.W.Frag) : List V → Hp → VK → Prop := fun vs H Q => ∃ (a : Addr) (ns : List Int), vs = [V.ref a] ∧ SqT K H a (ns.map V.int) ∧ Q (.int ns.sum) H
theorem cr_maxT {K : PySem.W.Frag} (hc : X.calm = true) (eK : X.K = K := by rfl) : CallR X (.builtin "max") (rMaxT K) := by
  subst eK
  intro pins s σ H vs us Q I r h
  obtain ⟨a, ns, rfl, hs, hne, q⟩ := h
  obtain ⟨its, rv, hl, _⟩ := I.tuple hs
  rw [Vals.ref1 r]
  exact maxT_raw (I.ok.hd hc) hl rv.ints hne fun h' tk m t' hk h1 h2 => ⟨.int _, H, I.kept hk, ⟨_, rfl⟩, q m h1 h2⟩
theorem cr_minT {K : PySem.W.Frag} (hc : X.calm = true) (eK : X.K = K := by rfl) : CallR X (.builtin "min") (rMinT K) := by
  subst eK
  intro pins s σ H vs us Q I r h
  obtain ⟨a, ns, rfl, hs, hne, q⟩ := h
  obtain ⟨its, rv, hl, _⟩ := I.tuple hs
  rw [Vals.ref1 r]
  exact minT_raw (I.ok.hd hc) hl rv.ints hne fun h' tk m t' hk h1 h2 => ⟨.int _, H, I.kept hk, ⟨_, rfl⟩, q m h1 h2⟩
theorem cr_sumT {K : PySem.W.Frag} (hc : X.calm = true) (eK : X.K = K := by rfl) : CallR X (.builtin "sum") (rSumT K) := by
  subst eK
  intro pins s σ H vs us Q I r h
  obtain ⟨a, ns, rfl, hs, q⟩ := h
  obtain ⟨its, rv, hl, _⟩ := I.tuple hs
  rw [Vals.ref1 r]
  exact sumT_raw (I.ok.hd hc) hl rv.ints fun h' tk t' hk => ⟨.int _, H, I.kept hk, ⟨_, rfl⟩, q⟩
theorem cr_maxL {K : PySem.W.Frag} (hc : X.calm = true) (eK : X.K = K := by rfl) : CallR X (.builtin "max") (rMax K) := by subst eK; exact cr_max hc
theorem cr_minL {K : PySem.W.Frag} (hc : X.calm = true) (eK : X.K = K := by rfl) : CallR X (.builtin "min") (rMin K) := by subst eK; exact cr_min hc
theorem cr_sumL {K : PySem.W.Frag} (hc : X.calm = true) (eK : X.K = K := by rfl) : CallR X (.builtin "sum") (rSum K) := by subst eK; exact cr_sum hc
end
end Far

namespace Far
open PySem PySem.Spec PyProof.Rows PyProof.V L2
theorem kv_vals17 : ∀ {kvs : List (Key × V)} {vs : List (Key × Value)}, KV kvs vs → Vals (kvs.map (·.2)) (vs.map (·.2))
  | [], [], .nil => .nil
  | _ :: _, _ :: _, .cons h t => .cons h.2 (kv_vals17 t)
/-- max(d.values()), the values whole numbers -/
def tMaxVals (te : TE) : TE := fun σ H Q => te σ H fun x H1 => ∃ (d : Addr) (kvs : List (Key × V)) (ns : List Int), x = .ref d ∧ H1 d = some (.dK kvs) ∧ kvs.map (·.2) = ns.map V.int ∧ 0 < ns.length ∧ ∀ m, m ∈ ns → (∀ y, y ∈ ns → y ≤ m) → Q (.int m) H1
theorem pe_maxVals {X : Cx} {e : Expr} {te : TE} {p pos apos cpos : Pos} (hc : X.calm = true) (he : PE X e te) (hg : Gl X "max") (hm : X.mg "max" = none) (hv : bootBuiltins "max" = some (.builtin "max"))
    (hbase : attributeBase e "values" X.env (eval e X.env) = eval e X.env := by rfl) (hline : (apos.endLine == cpos.line) = true := by rfl)
    (hs : starEach [.Call (.Attribute e "values" apos) [] [] cpos] X.env = (false, eval (.Call (.Attribute e "values" apos) [] [] cpos) X.env) :: starEach [] X.env := by rfl) :
    PE X (.Call (.Name "max" p) [.Call (.Attribute e "values" apos) [] [] cpos] [] pos) (tMaxVals te) := by
  refine ⟨fun pins s σ H Q I hq => ?_⟩
  refine wpAny_Call_Name_kw (ld_blt I hg hm hv ?_)
  refine PyProof.Rows.callWith_builtin1 ?_ hs rfl
  rw [hs]
  show wpAny _ _ (spliced ((false, eval (.Call (.Attribute e "values" apos) [] [] cpos) X.env) :: backTo pos (starEach [] X.env))) _ _ s
  refine Calls.spliced_cons ?_
  refine wpAny_Call_method (T := "dict") (id := "dict.values") hbase rfl hline F.plainAttrs_dict F.slot_dict_values F.type_dict_values (thn (he.run pins s σ H _ I hq) fun u s1 ⟨x, H1, I1, rx, d, kvs, ns, ex, hd, en, n0, q⟩ => ?_)
  subst ex
  obtain rfl : u = Value.ref d := rx
  obtain ⟨hz, hs0, vs, kv, hdo⟩ := I1.hok d _ hd
  obtain ⟨ep, hat⟩ := hdo.dictAt
  have lk : kvs.length = vs.length := Paired.length kv
  have I2 : Inv X pins σ H1 { s1 with heap := s1.heap.push { cls := .type "dict_values", data := .fields #[.ref d] } } := I1.kept (t' := s1.toks) fun b ob q => Heap.get?_push_of_some _ q
  refine ⟨hdo.typeIs, hdo.mapOf.noDict, ?_⟩
  show wpAny _ _ (callWith cpos (.builtin "dict.values") [.ref d] [] []) _ X.xe s1
  refine method_meetsIn F.slot_dict_values F.entry_dict_values rfl (PySem.evalArgs_none ⟨rfl, hdo.typeIs, F.args_dict_values_1 _, _, meets_dict_values (mixKind X.prog X.w) d hs0, ⟨vs, hdo⟩, ?_⟩)
  refine Calls.spliced_nil ?_
  have rv := kv_vals17 kv
  rw [en] at rv
  have hi := rv.ints
  obtain ⟨xs, exs⟩ := hi.allInts.items
  have hn : numsOf (intItems xs).toList = ns := by rw [← exs]; exact hi.numsOf
  rw [nums_intItems] at hn
  subst hn
  have hz2 : 0 < xs.size := by simpa using n0
  have vx : vs.length = xs.size := by
    have := congrArg Array.size exs
    simpa [intItems] using this
  have hdl : d < s1.heap.objs.size := hat.lt_size
  refine call_max_walk (wpAny_pyIter_values (v := s1.heap.objs.size) (d := d) (kvs := vs) (ep := ep) ⟨_, Heap.get?_push_size _ rfl, rfl, rfl⟩ (hat.push _) ?_)
  have hI2 := I2.ok.hd hc
  have hat2 := hat.push { cls := .type "dict_values", data := .fields #[.ref d] }
  have dI : d ≠ (s1.heap.push { cls := .type "dict_values", data := .fields #[.ref d] }).objs.size := by
    rw [Heap.size_push]
    exact Nat.ne_of_lt (Nat.lt_succ_of_lt hdl)
  refine ⟨_, _, _, _, _, _, fun i j => decide (numAt xs i > numAt xs j), rfl, Walks.dictValues (A := X.A.in1) (I1.ok.hd hc) _ d dI vs ep, ⟨⟨_, Heap.get?_push_size _ rfl, rfl, rfl⟩, hat2.push _⟩, fun b hb => ?_, by omega, CmpOf.ints_gt (numAt xs) (fun i v hv => ?_), fun v h' tk hP hk => ?_⟩
  · show b < ((s1.heap.push _).push _).objs.size
    rw [Heap.size_push]
    rcases List.mem_cons.mp hb with rfl | hb
    · exact Nat.lt_succ_self _
    · rw [List.mem_singleton.mp hb, Heap.size_push]
      exact Nat.lt_succ_of_lt (Nat.lt_succ_of_lt hdl)
  · obtain ⟨k, hk⟩ := hv
    refine intItems_at (v := v) ?_
    rw [← exs, List.getElem?_toArray, List.getElem?_map, hk]
    rfl
  · obtain ⟨k, hk2⟩ := hP
    have e2 : (intItems xs)[argBest (fun i j => decide (numAt xs i > numAt xs j)) (vs.length - 1)]? = some v := by
      rw [← exs, List.getElem?_toArray, List.getElem?_map, hk2]
      rfl
    obtain ⟨t, rfl⟩ := intItems_at e2
    rw [vx]
    obtain ⟨h1, h2⟩ := argBest_gt (numAt xs) (xs.size - 1)
    refine ⟨.int _, H1, I2.kept (t' := tk) ?_, ⟨_, rfl⟩, q _ ?_ fun a ha => ?_⟩
    · exact fun b o' e => hk b o' (fun hb => absurd (Heap.lt_size e) ((List.mem_singleton.mp hb) ▸ Nat.lt_irrefl _)) (Heap.get?_push_of_some _ e)
    · rw [numAt_eq]
      exact PySem.getD_mem (by rw [List.length_map, Array.length_toList]; omega)
    · obtain ⟨j, hj, rfl⟩ := mem_getD ha
      rw [List.length_map, Array.length_toList] at hj
      rw [← numAt_eq]
      exact h2 j (by omega)
end Far

namespace Far
open PySem PySem.Spec PyProof.Rows L2
/-- three tuples as they stand at each turn, the items in new triples -/
def ItzT3 (K : PySem.W.Frag) (a b c : Addr) : It :=
  ⟨fun i H => ∃ (xs ys zs : List V) (x y u : V), SqT K H a xs ∧ SqT K H b ys ∧ SqT K H c zs ∧ xs[i]? = some x ∧ ys[i]? = some y ∧ zs[i]? = some u,
    fun i H v H' => ∃ T x y u, v = .ref T ∧ H T = none ∧ H' = upd H T (.tup [x, y, u]) ∧ (∀ xs, SqT K H a xs → xs[i]? = some x) ∧ (∀ ys, SqT K H b ys → ys[i]? = some y) ∧ ∀ zs, SqT K H c zs → zs[i]? = some u,
    fun i H => ∃ xs ys zs : List V, SqT K H a xs ∧ SqT K H b ys ∧ SqT K H c zs ∧ xs.length = i ∧ ys.length = i ∧ zs.length = i⟩
def St3 (a b c z TI TO i1 i2 i3 : Addr) (i : Nat) (h : Heap) : Prop :=
  IsZip h z TI TO .none ∧ IsTupOf3 h TI (.ref i1) (.ref i2) (.ref i3) ∧ (∃ a1 a2 a3, IsTupOf3 h TO a1 a2 a3) ∧ h.IsTupleIter i1 a i ∧ h.IsTupleIter i2 b i ∧ h.IsTupleIter i3 c i
theorem turn_zip3 {P : Program} {w : World} {K : PySem.W.Frag} {elts : List Expr} {kk : Nat} {tpos : Pos} {a b c z TI TO i1 i2 i3 : Addr} (D : ZipSep3 z TI TO i1 i2 i3 [i1, a] [i2, b] [i3, c]) (na : a ≠ i1) (nb : b ≠ i2) (nc : c ≠ i3) :
    Turn P w K (.Tuple elts kk tpos) (ItzT3 K a b c) [z, TI, TO, i1, i2, i3] z (St3 a b c z TI TO i1 i2 i3) where
  mem := by simp
  obj := fun i h st e hc => by
    obtain ⟨hz, hTI, ⟨x, y, u, hTO⟩, ⟨o1, e1, _, d1⟩, ⟨o2, e2, _, d2⟩, ⟨o3, e3, _, d3⟩⟩ := st
    have e' : e = z ∨ e = TI ∨ e = TO ∨ e = i1 ∨ e = i2 ∨ e = i3 := by simpa using hc
    rcases e' with q | q | q | q | q | q
    · rw [q]; exact ⟨_, hz, fun v q => nomatch q⟩
    · rw [q]; exact ⟨_, hTI, fun v q => nomatch q⟩
    · rw [q]; exact ⟨_, hTO, fun v q => nomatch q⟩
    · rw [q]; exact ⟨o1, e1, fun v q => by rw [d1] at q; cases q⟩
    · rw [q]; exact ⟨o2, e2, fun v q => by rw [d2] at q; cases q⟩
    · rw [q]; exact ⟨o3, e3, fun v q => by rw [d3] at q; cases q⟩
  keep := fun i h h' st k => by
    obtain ⟨hz, hTI, ⟨x, y, u, hTO⟩, h1, h2, h3⟩ := st
    exact ⟨k z (by simp) _ hz, k TI (by simp) _ hTI, ⟨x, y, u, k TO (by simp) _ hTO⟩, h1.at fun o q => k i1 (by simp) o q, h2.at fun o q => k i2 (by simp) o q, h3.at fun o q => k i3 (by simp) o q⟩
  item := by
    intro X hP hw hK hc i pins s σ H E I hf st hg
    subst hP hw hK
    obtain ⟨hz, hTI, ⟨x0, y0, u0, hTO⟩, h1, h2, h3⟩ := st
    obtain ⟨xs, ys, zs, x, y, u, hqx, hqy, hqz, hx, hy, hu⟩ := hg
    obtain ⟨its, rv, p, _⟩ := I.tuple hqx
    obtain ⟨its2, rv2, p2, _⟩ := I.tuple hqy
    obtain ⟨its3, rv3, p3, _⟩ := I.tuple hqz
    obtain ⟨w1, hw1, rw1⟩ := rv.get hx
    obtain ⟨w2, hw2, rw2⟩ := rv2.get hy
    obtain ⟨w3, hw3, rw3⟩ := rv3.get hu
    have hd := I.ok.hd hc
    have l1 := (List.getElem?_eq_some_iff.mp hw1).1
    have l2 := (List.getElem?_eq_some_iff.mp hw2).1
    have l3 := (List.getElem?_eq_some_iff.mp hw3).1
    have WT := WalksT.zipD3 (prog := X.prog) (w := X.w) (A := X.A) D (Draws.tuple (A := X.A.in1) hd i1 a na its.toArray) (Draws.tuple (A := X.A.in1) hd i2 b nb its2.toArray) (Draws.tuple (A := X.A.in1) hd i3 c nc its3.toArray)
    have lts : ∀ e, e ∈ [z, TI, TO, i1, i2, i3] → e < s.heap.objs.size := fun e hc => by
      have e' : e = z ∨ e = TI ∨ e = TO ∨ e = i1 ∨ e = i2 ∨ e = i3 := by simpa using hc
      rcases e' with q | q | q | q | q | q
      · rw [q]; exact Heap.lt_size hz
      · rw [q]; exact Heap.lt_size hTI
      · rw [q]; exact Heap.lt_size hTO
      · rw [q]; obtain ⟨_, e1, _⟩ := h1; exact Heap.lt_size e1
      · rw [q]; obtain ⟨_, e1, _⟩ := h2; exact Heap.lt_size e1
      · rw [q]; obtain ⟨_, e1, _⟩ := h3; exact Heap.lt_size e1
    have sub : ∀ e, e ∉ [z, TI, TO, i1, i2, i3] → e ∉ [z, TO, i1, i2, i3] := fun e hb hm => hb (by
      have e' : e = z ∨ e = TO ∨ e = i1 ∨ e = i2 ∨ e = i3 := by simpa using hm
      rcases e' with q | q | q | q | q <;> rw [q] <;> simp)
    refine WT.item i s _ E (by simp; omega) ⟨hz, hTI, ⟨_, _, _, hTO⟩, ⟨h1, p⟩, ⟨h2, p2⟩, ⟨h3, p3⟩⟩ fun T vals h' tk hP hT hTup mid hk => ?_
    obtain ⟨x1, x2, x3, q1, q2, q3, rfl⟩ := hP
    have e1 : x1 = w1 := Option.some.inj (q1.symm.trans (by simpa using hw1))
    have e2 : x2 = w2 := Option.some.inj (q2.symm.trans (by simpa using hw2))
    have e3 : x3 = w3 := Option.some.inj (q3.symm.trans (by simpa using hw3))
    subst e1 e2 e3
    refine ⟨_, rfl, WT.go elts kk tpos i T _ _ E mid fun h'' st'' hk2 => ?_⟩
    have hT2 : h''.IsTuple T #[x1, x2, x3] := hTup.at fun o e => hk2 T o (WT.apart i T h' mid) e
    have new : ObjOk X.prog X.w (upd H T (.tup [x, y, u])) h'' T (.tup [x, y, u]) :=
      ⟨by show 3 ≤ sizeLine; decide, [x1, x2, x3], .cons rw1 (.cons rw2 (.cons rw3 .nil)), hT2⟩
    have I1 : Inv X pins σ (upd H T (.tup [x, y, u])) { s with heap := h'', toks := tk } :=
      I.turnedNew (t' := tk) (ch := [z, TI, TO, i1, i2, i3]) (fun e o hb q => hk2 e o (sub e hb) (hk e o (sub e hb) q)) hf hT new
    refine ⟨.ref T, _, I1, rfl, ⟨_, x, y, u, rfl, I.hok.fresh hT, rfl, fun l hl => by rw [I.tuple_inj hl hqx]; exact hx, fun l hl => by rw [I.tuple_inj hl hqy]; exact hy, fun l hl => by rw [I.tuple_inj hl hqz]; exact hu⟩, ⟨st''.1, st''.2.1, st''.2.2.1, st''.2.2.2.1.1, st''.2.2.2.2.1.1, st''.2.2.2.2.2.1⟩, fun e hem => ?_⟩
    rw [upd_ne (Nat.ne_of_lt (Nat.lt_of_lt_of_le (lts e hem) hT))]
    exact (hf e hem).1
  done := by
    intro X hP hw hK hc i pins s σ H E I hf st hg
    subst hP hw hK
    obtain ⟨hz, hTI, ⟨x0, y0, u0, hTO⟩, h1, h2, h3⟩ := st
    obtain ⟨xs, ys, zs, hqx, hqy, hqz, hx, hy, hu⟩ := hg
    obtain ⟨its, rv, p, _⟩ := I.tuple hqx
    obtain ⟨its2, rv2, p2, _⟩ := I.tuple hqy
    obtain ⟨its3, rv3, p3, _⟩ := I.tuple hqz
    have l1 := rv.length
    have l2 := rv2.length
    have l3 := rv3.length
    have hd := I.ok.hd hc
    have WT := WalksT.zipD3 (prog := X.prog) (w := X.w) (A := X.A) D (Draws.tuple (A := X.A.in1) hd i1 a na its.toArray) (Draws.tuple (A := X.A.in1) hd i2 b nb its2.toArray) (Draws.tuple (A := X.A.in1) hd i3 c nc its3.toArray)
    have en : min (min its.toArray.size its2.toArray.size) its3.toArray.size = i := by simp; omega
    rw [en] at WT
    have sub : ∀ e, e ∉ [z, TI, TO, i1, i2, i3] → e ∉ [z, TO, i1, i2, i3] := fun e hb hm => hb (by
      have e' : e = z ∨ e = TO ∨ e = i1 ∨ e = i2 ∨ e = i3 := by simpa using hm
      rcases e' with q | q | q | q | q <;> rw [q] <;> simp)
    refine WT.done s _ E ⟨hz, hTI, ⟨_, _, _, hTO⟩, ⟨h1, p⟩, ⟨h2, p2⟩, ⟨h3, p3⟩⟩ fun h' tk hk => ?_
    exact ⟨rfl, I.turnedL (t' := tk) (ch := [z, TI, TO, i1, i2, i3]) (fun e o hb q => hk e o (sub e hb) q) hf⟩
  self := fun A i s Q E st h => by
    exact wpAny_pyIter_zip st.1 h
def iZip3 (K : PySem.W.Frag) (ta : TA) : TI := fun σ H R => ta σ H fun vs H1 => ∃ a b c xs ys zs, vs = [.ref a, .ref b, .ref c] ∧ SqT K H1 a xs ∧ SqT K H1 b ys ∧ SqT K H1 c zs ∧ R (ItzT3 K a b c) H1
theorem pi_zip3 {X : Cx} {e e2 e3 : Expr} {ta : TA} {p pos tpos : Pos} {elts : List Expr} {kk : Nat} (hg : Gl X "zip") (hm : X.mg "zip" = none) (ha : PA X [e, e2, e3] ta)
    (hs : starEach [e, e2, e3] X.env = (false, eval e X.env) :: starEach [e2, e3] X.env := by rfl) (hpl : (backTo pos (starEach [e2, e3] X.env)).any (·.1) = false := by rfl) :
    PI X (.Tuple elts kk tpos) (.Call (.Name "zip" p) [e, e2, e3] [] pos) (iZip3 X.K ta) := by
  refine ⟨fun pins s σ H R I h => ?_⟩
  refine Call_ (ld_blt I hg hm PyProof.Rows.boot_zip (PyProof.Rows.callWith_type1 (thn (ha.run pos pins s σ H _ I h) fun us s1 ⟨vs, H1, I1, r1, q1⟩ => ?_) hs hpl))
  obtain ⟨a, b, c, xs, ys, zs, ex, hqx, hqy, hqz, q⟩ := q1
  subst ex
  cases r1 with
  | cons r rr =>
    cases rr with
    | cons r' rr =>
      cases rr with
      | cons r'' rr =>
        cases rr
        cases r
        cases r'
        cases r''
        have fresh6 : ∀ c, c ∈ [s1.heap.objs.size + 5, s1.heap.objs.size + 3, s1.heap.objs.size + 4, s1.heap.objs.size, s1.heap.objs.size + 1, s1.heap.objs.size + 2] → FpOk X pins H1 c := fun c hcm => by
          have e' : c = s1.heap.objs.size + 5 ∨ c = s1.heap.objs.size + 3 ∨ c = s1.heap.objs.size + 4 ∨ c = s1.heap.objs.size ∨ c = s1.heap.objs.size + 1 ∨ c = s1.heap.objs.size + 2 := by simpa using hcm
          have hle : s1.heap.objs.size ≤ c := by
            rcases e' with z | z | z | z | z | z
            · rw [z]; exact Nat.le_add_right _ _
            · rw [z]; exact Nat.le_add_right _ _
            · rw [z]; exact Nat.le_add_right _ _
            · rw [z]; exact Nat.le_refl _
            · rw [z]; exact Nat.le_add_right _ _
            · rw [z]; exact Nat.le_add_right _ _
          exact I1.fpOk hle (I1.hok.fresh hle)
        obtain ⟨its, rv, p1, _⟩ := I1.tuple hqx
        obtain ⟨its2, rv2, p2, _⟩ := I1.tuple hqy
        obtain ⟨its3, rv3, p3, _⟩ := I1.tuple hqz
        have la : a < s1.heap.objs.size := by
          obtain ⟨o, ho, _⟩ := id p1
          exact Heap.lt_size ho
        have lb : b < s1.heap.objs.size := by
          obtain ⟨o, ho, _⟩ := id p2
          exact Heap.lt_size ho
        have lc : c < s1.heap.objs.size := by
          obtain ⟨o, ho, _⟩ := id p3
          exact Heap.lt_size ho
        refine zip_begins3 (begins_tuple a its.toArray) (begins_tuple b its2.toArray) (begins_tuple c its3.toArray) p1 p2 p3 fun h' hz hTI hTO g1 g2 g3 hsz hk => wpAny_pyIter_zip hz ?_
        have I2 : Inv X pins σ H1 { s1 with heap := h' } := I1.kept (t' := s1.toks) hk
        exact ⟨s1.heap.objs.size + 5, [s1.heap.objs.size + 5, s1.heap.objs.size + 3, s1.heap.objs.size + 4, s1.heap.objs.size, s1.heap.objs.size + 1, s1.heap.objs.size + 2], _, _, H1, rfl, I2,
          turn_zip3 (zip_sep3 (N := s1.heap.objs.size) (fp1 := [a]) (fp2 := [b]) (fp3 := [c]) (fun e he => by rw [List.mem_singleton.mp he]; exact la) (fun e he => by rw [List.mem_singleton.mp he]; exact lb) (fun e he => by rw [List.mem_singleton.mp he]; exact lc)) (Nat.ne_of_lt la) (Nat.ne_of_lt (Nat.lt_succ_of_lt lb)) (Nat.ne_of_lt (Nat.lt_succ_of_lt (Nat.lt_succ_of_lt lc))),
          ⟨hz, hTI, ⟨_, _, _, hTO⟩, ⟨_, g1, rfl, rfl⟩, ⟨_, g2, rfl, rfl⟩, ⟨_, g3, rfl, rfl⟩⟩, fresh6, q⟩
/-- a loop over zip of three tuples of one length -/
theorem for_zip3 {K : PySem.W.Frag} {a b c : Addr} {xs ys zs : List V} {g : TG} {tb : TS} {D : Ends} {σ : L2.St} {H : Hp} (e1 : xs.length = ys.length) (e2 : xs.length = zs.length) (Pv : Nat → L2.St → Hp → Prop) (h0 : Pv 0 σ H) (hl : ∀ i σ H, Pv i σ H → SqT K H a xs ∧ SqT K H b ys ∧ SqT K H c zs)
    (hs : ∀ i x y u σ H T, xs[i]? = some x → ys[i]? = some y → zs[i]? = some u → Pv i σ H → H T = none → g (.ref T) σ (upd H T (.tup [x, y, u])) fun σ2 H2 => tb { D with nx := Pv (i + 1), ct := Pv (i + 1), bk := D.nx } σ2 H2) (hd : ∀ σ H, Pv xs.length σ H → D.nx σ H) :
    ∃ W : Nat → Nat → L2.St → Hp → Prop, (∃ m, W 0 m σ H) ∧ ∀ i m σ H, W i m σ H →
      ((ItzT3 K a b c).stop i H ∧ D.nx σ H) ∨ ((ItzT3 K a b c).go i H ∧ ∃ N : L2.St → Hp → Prop, (∀ σ' H', N σ' H' → ∃ m', m' < m ∧ W (i + 1) m' σ' H') ∧ ∀ x H', (ItzT3 K a b c).yld i H x H' → g x σ H' fun σ2 H2 => tb { D with nx := N, ct := N, bk := D.nx } σ2 H2) := by
  refine ⟨fun i m σ H => m = xs.length - i ∧ i ≤ xs.length ∧ Pv i σ H, ⟨xs.length, by simp, Nat.zero_le _, h0⟩, fun i m σ H ⟨em, hi, p⟩ => ?_⟩
  obtain ⟨q1, q2, q3⟩ := hl i σ H p
  by_cases lt : i < xs.length
  · have lt2 : i < ys.length := by omega
    have lt3 : i < zs.length := by omega
    refine .inr ⟨⟨xs, ys, zs, xs[i], ys[i], zs[i], q1, q2, q3, by simp [lt], by simp [lt2], by simp [lt3]⟩, Pv (i + 1), fun σ' H' p' => ⟨xs.length - (i + 1), by omega, rfl, lt, p'⟩, fun v H' ⟨T, x, y, u, ev, nT, eH, hx, hy, hu⟩ => ?_⟩
    rw [ev, eH]
    exact hs i x y u σ H T (hx xs q1) (hy ys q2) (hu zs q3) p nT
  · have e : i = xs.length := by omega
    rw [e] at p
    exact .inl ⟨⟨xs, ys, zs, q1, q2, q3, by omega, by omega, by omega⟩, hd σ H p⟩
end Far

namespace Far
open PySem PySem.Spec PyProof.Rows L2
open C8 (pss_cut tCut)
open SX (S)
def mn2 (i j : Int) : Int := if j < i then j else i
/-- how far a place is from the point, times twice the below -/
noncomputable def dbl (ts : List Tie) (p : Pt) (y : Nm) : Int := 2 * mn2 (dist ts p.1 y * p.2.2.2 + p.2.2.1) ((dist ts p.2.1 y + dist ts p.1 p.2.1) * p.2.2.2 - p.2.2.1)
theorem at_name {pl : List Nm} {i : Nat} {v : V} (hi : ((pl.map S).map V.str)[i]? = some v) : ∃ x, pl[i]? = some x ∧ x ∈ pl ∧ v = .str (S x) ∧ pl.take (i + 1) = pl.take i ++ [x] := by
  rw [List.getElem?_map, List.getElem?_map] at hi
  cases e : pl[i]? with
  | none => rw [e] at hi; cases hi
  | some x =>
    rw [e] at hi
    exact ⟨x, rfl, List.mem_of_getElem? e, (Option.some.inj hi).symm, by rw [List.take_add_one, e]; rfl⟩
abbrev s_doubled_from : Stmt := topS 23
abbrev N_doubled_from : List Str := ["tree", "point", "one", "other", "above", "below", "tie", "told", "place", "by_one", "by_other"]
theorem sc_doubled_from : FnScope N_doubled_from ["tree", "point"] (defScope s_doubled_from) := ⟨rfl, rfl, rfl, by decide +kernel, rfl, by decide +kernel, by decide +kernel⟩
section
variable {P : Program} {w : World} {K : PySem.W.Frag} {mg : Str → Option Value} {base : Heap}
def spDbl : Sp := fun vs H Q _ => ∃ (v u : V) (pl : List Nm) (ts : List Tie) (p : Pt), vs = [v, u] ∧ Dt H v (treeD pl ts) ∧ Fine pl ts ∧ Dt H u (ptD p) ∧ p.1 ∈ pl ∧ p.2.1 ∈ pl ∧ (-(2 ^ 64) < p.2.2.2 ∧ p.2.2.2 < 2 ^ 64) ∧
  ∀ (H' : Hp) (q : Addr), Same H H' → H q = none → H' q = some (.dK (dkm pl fun y => .int (dbl ts p y))) → Q (.ref q) H'
theorem ok_doubled {f : Addr} {fd : FuncData} (F : Fun K "_doubled_from" "_doubled_from" s_doubled_from f fd) (T : TxtH mg) (Clength_between : Cal P w K mg base 3 "length_between" spLen) (Clengths_from : Cal P w K mg base 3 "lengths_from" spLens) : FnOk P w K mg base CX0 4 f fd ["tree", "point"] spDbl := by
  refine F.ok sc_doubled_from (fun vs H Q E h => ?_) (fun cdv A outer s H vs Q E hr h => ?_)
  · obtain ⟨v, u, pl, ts, p, rfl, _⟩ := h
    rfl
  · obtain ⟨v, u, pl, ts, ⟨one, other, above, below⟩, rfl, hd, fine, hu, m1, m2, hb, q⟩ := h
    obtain ⟨t, a, b, vs, rfl, ht, ha, hb', hA⟩ := dt_tree hd
    obtain ⟨g, r, rfl, hg, hr2⟩ := dt_pt hu
    dsimp only at m1 m2 hb hg hr2 q
    have pll := fine.len
    refine ⟨_, (pss_cons (ps_asg (pv 1) (pg_tup rfl (pgs_cons (pg_name (i := 2) sc_doubled_from.nd rfl (.inl rfl)) (pgs_cons (pg_name (i := 3) sc_doubled_from.nd rfl (.inl rfl)) (pgs_cons (pg_tup rfl (pgs_cons (pg_name (i := 4) sc_doubled_from.nd rfl (.inl rfl)) (pgs_cons (pg_name (i := 5) sc_doubled_from.nd rfl (.inl rfl)) pgs_nil))) pgs_nil)))))
      (pss_cons (ps_set (i := 6) sc_doubled_from.nd rfl (.inl rfl) (pe_c Clength_between hr (by decide) rfl (pa_cons (pv 0) (pa_cons (pv 2) (pa_cons (pv 3) pa_nil)))))
      (pss_cons (ps_set (i := 7) sc_doubled_from.nd rfl (.inl rfl) pe_dnewK)
      (pss_cut (ps_for PassesOwn.never rfl (pi_zip3 (by rfl) T.zip (pa_cons (pe_ix ix_tup (pv 0) pe_int (fun _ _ => rfl)) (pa_cons (pe_c Clengths_from hr (by decide) rfl (pa_cons (pv 0) (pa_cons (pv 2) pa_nil))) (pa_cons (pe_c Clengths_from hr (by decide) rfl (pa_cons (pv 0) (pa_cons (pv 3) pa_nil))) pa_nil)))) (pg_tup rfl (pgs_cons (pg_name (i := 8) sc_doubled_from.nd rfl (.inl rfl)) (pgs_cons (pg_name (i := 9) sc_doubled_from.nd rfl (.inl rfl)) (pgs_cons (pg_name (i := 10) sc_doubled_from.nd rfl (.inl rfl)) pgs_nil))))
        (pss_one (ps_dput (hu_of hr) (pv 7) (pv 8) (pe_op op_mul pe_int (pe_callB (call_min2 rfl) (by rfl) T.min bt_min (pa_cons (pe_op op_add (pe_op op_mul (pv 9) (pv 5)) (pv 4)) (pa_cons (pe_op op_sub (pe_op op_mul (pe_op op_add (pv 10) (pv 6)) (pv 5)) (pv 4)) pa_nil)))) rfl)))
      (pss_one (ps_ret (pv 7))))))), ?_⟩
    refine ⟨_, rfl, g, _, rfl, SqT.of hg, rfl, _, _, rfl, _, _, rfl, _, _, rfl, r, _, rfl, SqT.of hr2, rfl, _, _, rfl, _, _, rfl, rfl, rfl, ?_⟩
    refine ⟨_, rfl, _, rfl, _, rfl, .ref t, pl, ts, one, other, rfl, hd, fine, m1, m2, fun H1 S1 => ?_⟩
    refine fun D nD => ?_
    have S2 := same_new (o := .dK []) S1 nD
    have nD0 := S1.free nD
    have hD0 : (upd H1 D (.dK [])) D = some (.dK []) := upd_same
    generalize upd H1 D (.dK []) = H2 at S2 hD0
    refine ⟨fun σ' H' => ∃ (x8 x9 x10 : Option V), σ' = [some (.ref t), some (.ref g), some (.str (S one)), some (.str (S other)), some (.int above), some (.int below), some (.int (dist ts one other)), some (.ref D), x8, x9, x10] ∧ Same H H' ∧ H' D = some (.dK (dkm pl fun y => .int (dbl ts (one, other, above, below) y))), ?_, fun σ' H' hM => ?_⟩
    rotate_left
    · obtain ⟨x8, x9, x10, rfl, S4, hD⟩ := hM
      exact ⟨_, rfl, q H' D S4 nD0 hD⟩
    · refine ⟨_, rfl, t, _, 0, .ref a, rfl, rfl, SqT.of (S2 _ _ ht), atI_nat (j := 0) rfl, ?_⟩
      refine ⟨_, rfl, _, rfl, .ref t, pl, ts, one, rfl, Dt.keep (TK.of S2) hd, fine, m1, fun H3 q3 S3 n3 h3 => ?_⟩
      refine ⟨_, rfl, _, rfl, .ref t, pl, ts, other, rfl, Dt.keep (TK.of (S2.trans S3)) hd, fine, m2, fun H4 q4 S4 n4 h4 => ?_⟩
      have h34 := S4 _ _ h3
      have S24 := S2.trans (S3.trans S4)
      have hD4 := S4 _ _ (S3 _ _ hD0)
      have D3 : q3 ≠ D := ne_of h34 hD4 (by intro z; cases z)
      have D4 : q4 ≠ D := ne_of h4 hD4 (by intro z; cases z)
      refine ⟨a, q3, q4, _, _, _, rfl, (ha.same S24).sq, SqT.of h34, SqT.of h4, for_zip3 (K := K) (a := a) (b := q3) (c := q4) (xs := (pl.map S).map V.str) (ys := pl.map fun x => .int (dist ts one x)) (zs := pl.map fun x => .int (dist ts other x)) (by simp) (by simp) (fun i σ' H' => ∃ (x8 x9 x10 : Option V), σ' = [some (.ref t), some (.ref g), some (.str (S one)), some (.str (S other)), some (.int above), some (.int below), some (.int (dist ts one other)), some (.ref D), x8, x9, x10] ∧ Same H H' ∧ H' q3 = some (.tup (pl.map fun x => .int (dist ts one x))) ∧ H' q4 = some (.tup (pl.map fun x => .int (dist ts other x))) ∧ H' D = some (.dK (dkm (pl.take i) fun y => .int (dbl ts (one, other, above, below) y))))
        ⟨none, none, none, rfl, S24, h34, h4, hD4⟩ (fun i σ' H' hP => ?_) (fun i x y u σ' H' T1 hx hy hz hP nT => ?_) (fun σ' H' hP => ?_)⟩
      · obtain ⟨_, _, _, _, S5, g3, g4, _⟩ := hP
        exact ⟨(ha.same S5).sq, SqT.of g3, SqT.of g4⟩
      · obtain ⟨x8, x9, x10, rfl, S5, g3, g4, hD⟩ := hP
        obtain ⟨nm, hnm, mnm, rfl, ex⟩ := at_name hx
        have ey : y = .int (dist ts one nm) := by
          rw [List.getElem?_map, hnm] at hy
          exact (Option.some.inj hy).symm
        have eu : u = .int (dist ts other nm) := by
          rw [List.getElem?_map, hnm] at hz
          exact (Option.some.inj hz).symm
        subst ey eu
        have il := (List.getElem?_eq_some_iff.mp hnm).1
        have W1 := same_new (o := .tup [.str (S nm), .int (dist ts one nm), .int (dist ts other nm)]) (Same.refl H') nT
        have S6 := S5.trans W1
        have g3' := W1 _ _ g3
        have g4' := W1 _ _ g4
        have hD' := W1 _ _ hD
        have hT : (upd H' T1 (.tup [.str (S nm), .int (dist ts one nm), .int (dist ts other nm)])) T1 = some (.tup [.str (S nm), .int (dist ts one nm), .int (dist ts other nm)]) := upd_same
        generalize upd H' T1 (.tup [.str (S nm), .int (dist ts one nm), .int (dist ts other nm)]) = H6 at S6 g3' g4' hD' hT
        refine ⟨T1, _, rfl, SqT.of hT, rfl, _, _, rfl, _, _, rfl, _, _, rfl, rfl, ?_⟩
        refine ⟨_, rfl, _, rfl, _, _, rfl, rfl, .inr hb, _, rfl, _, _, rfl, rfl, ?_⟩
        refine ⟨_, rfl, _, rfl, _, _, rfl, rfl, _, rfl, _, _, rfl, rfl, .inr hb, _, rfl, _, _, rfl, rfl, ?_⟩
        refine ⟨_, _, rfl, _, _, rfl, rfl, .inl ⟨by decide, by decide⟩, ?_⟩
        have nn : nm ∉ pl.take i := fun hm => by
          have nd : (pl.take (i + 1)).Nodup := List.Nodup.sublist (List.take_sublist _ _) fine.tree.nodup
          rw [ex] at nd
          exact (List.nodup_append.mp nd).2.2 nm hm nm (List.mem_cons_self ..) rfl
        refine ⟨_, rfl, _, rfl, D, _, rfl, DPut.k (k := Sum.inr (S nm)) hD' (by unfold dkm; rw [List.length_map, List.length_take]; exact sz_lt (by omega)), ?_⟩
        refine ⟨_, _, _, rfl, same_put S6 nD0, by rw [upd_ne D3]; exact g3', by rw [upd_ne D4]; exact g4', ?_⟩
        rw [upd_same, dkm_new nn, ex]
        refine congrArg (fun z => some (HO.dK z)) (dkm_cong fun z _ => ?_)
        by_cases c : z = nm
        · rw [if_pos c, c]
          rfl
        · rw [if_neg c]
      · obtain ⟨x8, x9, x10, rfl, S5, _, _, hD⟩ := hP
        rw [List.length_map, List.length_map, List.take_length] at hD
        exact ⟨_, _, _, rfl, S5, hD⟩
abbrev s_paper_shown : Stmt := topS 19
abbrev N_paper_shown : List Str := ["tree", "number", "paper", "point", "one", "other", "doubled", "half"]
theorem sc_paper_shown : FnScope N_paper_shown ["tree", "number", "paper"] (defScope s_paper_shown) := ⟨rfl, rfl, rfl, by decide +kernel, rfl, by decide +kernel, by decide +kernel⟩
abbrev Pap := Pt × Nm × Nm
def papD (x : Pap) : PyData := .tuple [ptD x.1, .tuple [strD x.2.1, strD x.2.2]]
theorem dt_pap {H : Hp} {v : V} {x : Pap} (h : Dt H v (papD x)) : ∃ (g r : Addr) (u : V), v = .ref g ∧ H g = some (.tup [u, .ref r]) ∧ Dt H u (ptD x.1) ∧ TupAt H r [.str (S x.2.1), .str (S x.2.2)] := by
  obtain ⟨t, u, y, rfl, ht, hx, hy⟩ := dt_pair h fun l z => nomatch z
  obtain ⟨r, rfl, hr⟩ := dt_names (pl := [x.2.1, x.2.2]) hy
  exact ⟨t, r, u, rfl, ht, hx, hr⟩
theorem isPt_mem {pl : List Nm} {ts : List Tie} {p : Pt} (F : IsTree pl ts) (h : isPt pl ts p = true) : p.1 ∈ pl ∧ p.2.1 ∈ pl := by
  unfold isPt at h
  by_cases c : p.1 = p.2.1
  · rw [if_pos c, Bool.and_eq_true, decide_eq_true_eq] at h
    exact ⟨h.1, c ▸ h.1⟩
  · rw [if_neg c] at h
    by_cases c1 : p.2.2.2 < 1
    · rw [if_pos c1] at h
      cases h
    · rw [if_neg c1] at h
      by_cases c2 : ((Nat.gcd p.2.2.1.natAbs p.2.2.2.natAbs : Nat) : Int) ≠ 1
      · rw [if_pos c2] at h
        cases h
      · rw [if_neg c2] at h
        cases e : ts.find? (joins p.1 p.2.1) with
        | none =>
          rw [e] at h
          cases h
        | some t =>
          have m := List.mem_of_find?_eq_some e
          have j := List.find?_some e
          have ti := F.ties t m
          unfold joins at j
          have c4 := of_decide_eq_true j
          simp only [List.mem_cons, List.not_mem_nil, or_false] at c4
          rcases c4 with e | e
          · have e1 : t.1 = p.1 := congrArg Prod.fst e
            have e2 : t.2.1 = p.2.1 := congrArg Prod.snd e
            exact ⟨e1 ▸ ti.1, e2 ▸ ti.2.1⟩
          · have e1 : t.1 = p.2.1 := congrArg Prod.fst e
            have e2 : t.2.1 = p.1 := congrArg Prod.snd e
            exact ⟨e2 ▸ ti.2.1, e1 ▸ ti.1⟩
open Classical in
/-- what the paper must show -/
noncomputable def shown (pl : List Nm) (ts : List Tie) (n : Int) (x : Pap) : Bool :=
  isPt pl ts x.1 && decide (x.2.1 ∈ pl ∧ x.2.2 ∈ pl ∧ dist ts x.2.1 x.2.2 = n ∧ dbl ts x.1 x.2.1 = n * x.1.2.2.2 ∧ dbl ts x.1 x.2.2 = n * x.1.2.2.2 ∧ ∀ y ∈ pl, dbl ts x.1 y ≤ n * x.1.2.2.2)
def spShown : Sp := fun vs H Q _ => ∃ (v u : V) (n : Int) (pl : List Nm) (ts : List Tie) (x : Pap), vs = [v, .int n, u] ∧ Dt H v (treeD pl ts) ∧ PlZ H v pl ∧ Fine pl ts ∧ Dt H u (papD x) ∧ NameOk x.1.1 ∧ NameOk x.1.2.1 ∧ (-(2 ^ 64) < x.1.2.2.2 ∧ x.1.2.2.2 < 2 ^ 64) ∧ ∀ H' : Hp, Same H H' → Q (.bl (shown pl ts n x)) H'
theorem ok_shown {f : Addr} {fd : FuncData} (F : Fun K "paper_shown" "paper_shown" s_paper_shown f fd) (T : TxtH mg) (Clength_between : Cal P w K mg base 3 "length_between" spLen) (C_is_point : Cal P w K mg base 3 "_is_point" spIsPt) (C_doubled_from : Cal P w K mg base 4 "_doubled_from" spDbl) : FnOk P w K mg base CX0 5 f fd ["tree", "number", "paper"] spShown := by
  refine F.ok sc_paper_shown (fun vs H Q E h => ?_) (fun cdv A outer s H vs Q E hr h => ?_)
  · obtain ⟨v, u, n, pl, ts, x, rfl, _⟩ := h
    rfl
  · obtain ⟨v, u, n, pl, ts, ⟨pt, x1, x2⟩, rfl, hd, hz, fine, hu, n1, n2, hb, q⟩ := h
    obtain ⟨t, a, b, vs, rfl, ht, ha, hb', hA⟩ := dt_tree hd
    obtain ⟨g, r, up, rfl, hg, hp, hr2⟩ := dt_pap hu
    dsimp only at n1 n2 hb hg hp hr2 q
    have pll := fine.len
    have fin : ∀ (b : Bool) (H' : Hp), shown pl ts n (pt, x1, x2) = b → Same H H' → Q (.bl b) H' := fun b H' e S => by
      rw [← e]
      exact q H' S
    refine ⟨_, (pss_cons (ps_asg (pv 2) (pg_tup rfl (pgs_cons (pg_name (i := 3) sc_paper_shown.nd rfl (.inl rfl)) (pgs_cons (pg_tup rfl (pgs_cons (pg_name (i := 4) sc_paper_shown.nd rfl (.inl rfl)) (pgs_cons (pg_name (i := 5) sc_paper_shown.nd rfl (.inl rfl)) pgs_nil))) pgs_nil))))
      (pss_cut (ps_if (pt_not (pt_val (pe_c C_is_point hr (by decide) rfl (pa_cons (pv 0) (pa_cons (pv 3) pa_nil)))))
        (pss_one (ps_ret pe_bl))
        pss_nil)
      (pss_cut (ps_if (PW.pt (pw_or (pt_cmpR op_notIn_seq (pv 4) (pe_ix ix_tup (pv 0) pe_int (fun _ _ => rfl)) rfl) (pw_or1 (pt_cmpR op_notIn_seq (pv 5) (pe_ix ix_tup (pv 0) pe_int (fun _ _ => rfl)) rfl))))
        (pss_one (ps_ret pe_bl))
        pss_nil)
      (pss_cut (ps_if (pt_cmpR op_ne (pe_c Clength_between hr (by decide) rfl (pa_cons (pv 0) (pa_cons (pv 4) (pa_cons (pv 5) pa_nil)))) (pv 1) (nomark _))
        (pss_one (ps_ret pe_bl))
        pss_nil)
      (pss_cons (ps_set (i := 6) sc_paper_shown.nd rfl (.inl rfl) (pe_c C_doubled_from hr (by decide) rfl (pa_cons (pv 0) (pa_cons (pv 3) pa_nil))))
      (pss_cons (ps_set (i := 7) sc_paper_shown.nd rfl (.inl rfl) (pe_op op_mul (pv 1) (pe_ix ix_tup (pe_ix ix_tup (pv 3) pe_int (fun _ _ => rfl)) pe_int (fun _ _ => rfl))))
      (pss_cut (ps_if (PW.pt (pw_or (pt_cmpR op_ne (pe_dget (hu_of hr) (pv 6) (pv 4) (fun _ _ => rfl)) (pv 7) (nomark _)) (pw_or1 (pt_cmpR op_ne (pe_dget (hu_of hr) (pv 6) (pv 5) (fun _ _ => rfl)) (pv 7) (nomark _)))))
        (pss_one (ps_ret pe_bl))
        pss_nil)
      (pss_one (ps_ret (pe_cmpR op_le (pe_maxVals rfl (pv 6) (by rfl) T.max bt_max) (pv 7) (nomark _))))))))))), ?_⟩
    refine ⟨_, rfl, g, _, rfl, SqT.of hg, rfl, _, _, rfl, _, _, rfl, r, _, rfl, hr2.sq, rfl, _, _, rfl, _, _, rfl, rfl, rfl, ?_⟩
    refine ⟨fun σ' H' => isPt pl ts pt = true ∧ σ' = [some (.ref t), some (.int n), some (.ref g), some up, some (.str (S x1)), some (.str (S x2)), none, none] ∧ Same H H', ?_, fun σ' H1 hM => ?_⟩
    · refine ⟨_, rfl, _, rfl, .ref t, up, pl, ts, pt, rfl, hd, hz, fine, hp, n1, n2, fun H1 S1 => ⟨_, rfl, ?_⟩⟩
      cases c : isPt pl ts pt with
      | true => exact iteF' rfl ⟨rfl, rfl, S1⟩
      | false =>
        refine iteT' rfl (fin _ _ ?_ S1)
        unfold shown
        dsimp only
        rw [c, Bool.false_and]
    obtain ⟨cp, rfl, S1⟩ := hM
    obtain ⟨m1, m2⟩ := isPt_mem fine.tree cp
    refine ⟨fun σ' H' => (x1 ∈ pl ∧ x2 ∈ pl) ∧ σ' = [some (.ref t), some (.int n), some (.ref g), some up, some (.str (S x1)), some (.str (S x2)), none, none] ∧ Same H H', ?_, fun σ' H2 hM => ?_⟩
    · have no : ¬ (x1 ∈ pl ∧ x2 ∈ pl) → shown pl ts n (pt, x1, x2) = false := fun h => by
        unfold shown
        dsimp only
        rw [decide_eq_false (fun z => h ⟨z.1, z.2.1⟩), Bool.and_false]
      refine ⟨_, rfl, _, rfl, t, _, 0, .ref a, rfl, rfl, SqT.of (S1 _ _ ht), atI_nat (j := 0) rfl, a, _, rfl, .inr (ha.same S1).sq, rfl, flat_strs pl, _, rfl, ?_⟩
      rw [inV_strs]
      by_cases c1 : x1 ∈ pl
      · refine iteF' (by rw [decide_eq_true c1]; rfl) ?_
        refine ⟨_, rfl, _, rfl, t, _, 0, .ref a, rfl, rfl, SqT.of (S1 _ _ ht), atI_nat (j := 0) rfl, a, _, rfl, .inr (ha.same S1).sq, rfl, flat_strs pl, _, rfl, ?_⟩
        rw [inV_strs]
        by_cases c2 : x2 ∈ pl
        · exact iteF' (by rw [decide_eq_true c2]; rfl) ⟨⟨c1, c2⟩, rfl, S1⟩
        · exact iteT' (by rw [decide_eq_false c2]; rfl) (fin _ _ (no fun z => c2 z.2) S1)
      · exact iteT' (by rw [decide_eq_false c1]; rfl) (iteT (fin _ _ (no fun z => c1 z.1) S1))
    obtain ⟨⟨p1, p2⟩, rfl, S2⟩ := hM
    refine ⟨fun σ' H' => dist ts x1 x2 = n ∧ σ' = [some (.ref t), some (.int n), some (.ref g), some up, some (.str (S x1)), some (.str (S x2)), none, none] ∧ Same H H', ?_, fun σ' H3 hM => ?_⟩
    · refine ⟨_, rfl, _, rfl, _, rfl, .ref t, pl, ts, x1, x2, rfl, Dt.keep (TK.of S2) hd, fine, p1, p2, fun H3 S3 => ⟨_, rfl, rfl, _, rfl, ?_⟩⟩
      by_cases c : dist ts x1 x2 = n
      · exact iteF' (by rw [c, decide_eq_true rfl]; rfl) ⟨c, rfl, S2.trans S3⟩
      · refine iteT' (by rw [decide_eq_false fun z => c (V.int.inj z)]; rfl) (fin _ _ ?_ (S2.trans S3))
        unfold shown
        dsimp only
        rw [decide_eq_false (fun z => c z.2.2.1), Bool.and_false]
    obtain ⟨cl, rfl, S3⟩ := hM
    refine ⟨_, rfl, _, rfl, .ref t, up, pl, ts, pt, rfl, Dt.keep (TK.of S3) hd, fine, Dt.keep (TK.of S3) hp, m1, m2, hb, fun H4 D S4 nD hD => ?_⟩
    obtain ⟨gp, rp, eup, hgp, hrp⟩ := dt_pt (Dt.keep (TK.of (S3.trans S4)) hp)
    subst eup
    refine ⟨_, rfl, _, rfl, gp, _, 2, .ref rp, rfl, rfl, SqT.of hgp, atI_nat (j := 2) rfl, rp, _, 1, .int pt.2.2.2, rfl, rfl, SqT.of hrp, atI_nat (j := 1) rfl, _, _, rfl, rfl, .inr hb, ?_⟩
    refine ⟨fun σ' H' => (dbl ts pt x1 = n * pt.2.2.2 ∧ dbl ts pt x2 = n * pt.2.2.2) ∧ σ' = [some (.ref t), some (.int n), some (.ref g), some (.ref gp), some (.str (S x1)), some (.str (S x2)), some (.ref D), some (.int (n * pt.2.2.2))] ∧ H' = H4, ?_, fun σ' H5 hM => ?_⟩
    · have no : ¬ (dbl ts pt x1 = n * pt.2.2.2 ∧ dbl ts pt x2 = n * pt.2.2.2) → shown pl ts n (pt, x1, x2) = false := fun h => by
        unfold shown
        dsimp only
        rw [decide_eq_false (fun z => h ⟨z.2.2.2.1, z.2.2.2.2.1⟩), Bool.and_false]
      refine ⟨_, rfl, _, rfl, D, .int (dbl ts pt x1), rfl, by rw [← dkm_get (f := fun y => V.int (dbl ts pt y)) p1]; exact DGet.k (k := Sum.inr (S x1)) hD, _, rfl, rfl, _, rfl, ?_⟩
      by_cases c1 : dbl ts pt x1 = n * pt.2.2.2
      · refine iteF' (by rw [c1, decide_eq_true rfl]; rfl) ?_
        refine ⟨_, rfl, _, rfl, D, .int (dbl ts pt x2), rfl, by rw [← dkm_get (f := fun y => V.int (dbl ts pt y)) p2]; exact DGet.k (k := Sum.inr (S x2)) hD, _, rfl, rfl, _, rfl, ?_⟩
        by_cases c2 : dbl ts pt x2 = n * pt.2.2.2
        · exact iteF' (by rw [c2, decide_eq_true rfl]; rfl) ⟨⟨c1, c2⟩, rfl, rfl⟩
        · exact iteT' (by rw [decide_eq_false fun z => c2 (V.int.inj z)]; rfl) (fin _ _ (no fun z => c2 z.2) (S3.trans S4))
      · exact iteT' (by rw [decide_eq_false fun z => c1 (V.int.inj z)]; rfl) (iteT (fin _ _ (no fun z => c1 z.1) (S3.trans S4)))
    obtain ⟨⟨c1, c2⟩, rfl, rfl⟩ := hM
    have ev : (dkm pl fun y => V.int (dbl ts pt y)).map (·.2) = (pl.map (dbl ts pt)).map V.int := by
      unfold dkm
      rw [List.map_map, List.map_map]
      rfl
    refine ⟨_, rfl, D, _, pl.map (dbl ts pt), rfl, hD, ev, by rw [List.length_map]; exact List.length_pos_iff.mpr fine.ne, fun m hm hle => ?_⟩
    refine ⟨_, rfl, _, _, rfl, rfl, ?_⟩
    refine fin _ _ ?_ (S3.trans S4)
    unfold shown
    dsimp only
    rw [cp, Bool.true_and]
    refine decide_eq_decide.mpr ⟨fun z => ?_, fun z => ⟨p1, p2, cl, c1, c2, fun y hy => Int.le_trans (hle _ (List.mem_map_of_mem hy)) z⟩⟩
    obtain ⟨y, hy, rfl⟩ := List.mem_map.mp hm
    exact z.2.2.2.2.2 y hy
end
end Far

namespace Far
open PySem PySem.Spec PyProof.Rows L2
open C8 (pss_cut tCut)
open SX (S)
abbrev s_law_lengths : Stmt := topS 31
abbrev N_law_lengths : List Str := ["tree", "places", "ties", "found", "place", "far", "waiting", "here", "one", "other", "length", "end", "there"]
theorem sc_law_lengths : FnScope N_law_lengths ["tree"] (defScope s_law_lengths) := ⟨rfl, rfl, rfl, by decide +kernel, rfl, by decide +kernel, by decide +kernel⟩
/-- the lengths from u to those of fs at fa, those to be gone on from at wa, all else as at H0 -/
structure LW (H0 H' : Hp) (fa wa : Addr) (ts : List Tie) (u : Nm) (fs st : List Nm) : Prop where
  same : Same H0 H'
  far : H' fa = some (.dK (dkm fs fun x => .int (dist ts u x)))
  wait : H' wa = some (.lst ((st.map S).map V.str))
theorem LW.ne {H0 H' : Hp} {fa wa : Addr} {ts : List Tie} {u : Nm} {fs st : List Nm} (w : LW H0 H' fa wa ts u fs st) : fa ≠ wa := ne_of w.far w.wait (by intro z; cases z)
theorem LW.new {H0 H' : Hp} {fa wa p : Addr} {o : HO} {ts : List Tie} {u : Nm} {fs st : List Nm} (w : LW H0 H' fa wa ts u fs st) (np : H' p = none) : LW H0 (upd H' p o) fa wa ts u fs st :=
  ⟨same_new w.same np, by rw [upd_ne (ne_of_none w.far np)]; exact w.far, by rw [upd_ne (ne_of_none w.wait np)]; exact w.wait⟩
theorem LW.setW {H0 H' : Hp} {fa wa : Addr} {ts : List Tie} {u : Nm} {fs st st' : List Nm} (w : LW H0 H' fa wa ts u fs st) (n0 : H0 wa = none) : LW H0 (upd H' wa (.lst ((st'.map S).map V.str))) fa wa ts u fs st' :=
  ⟨same_put w.same n0, by rw [upd_ne w.ne]; exact w.far, upd_same⟩
theorem LW.setF {H0 H' : Hp} {fa wa : Addr} {ts : List Tie} {u y : Nm} {n : Int} {fs st : List Nm} (w : LW H0 H' fa wa ts u fs st) (n0 : H0 fa = none) (e : dist ts u y = n) : LW H0 (upd H' fa (.dK (dkm (fs ++ [y]) fun z => if z = y then V.int n else .int (dist ts u z)))) fa wa ts u (fs ++ [y]) st := by
  refine ⟨same_put w.same n0, ?_, by rw [upd_ne w.ne.symm]; exact w.wait⟩
  rw [upd_same]
  refine congrArg (fun z => some (HO.dK z)) (dkm_cong fun z _ => ?_)
  by_cases q : z = y
  · rw [if_pos q, q, e]
  · rw [if_neg q]
/-- the first i ties are gone along from h -/
def NbT (l : List Tie) (h : Nm) (fs : List Nm) : Prop := ∀ e ∈ l, (e.1 = h → e.2.1 ∈ fs) ∧ (e.2.1 = h → e.1 ∈ fs)
theorem NbT.more {l : List Tie} {h y : Nm} {fs : List Nm} (n : NbT l h fs) : NbT l h (fs ++ [y]) := fun e he => ⟨fun z => List.mem_append_left _ ((n e he).1 z), fun z => List.mem_append_left _ ((n e he).2 z)⟩
/-- at D for each of us a list of its own: how far all places are -/
structure RowsAt (H : Hp) (D : Addr) (pl us : List Nm) (ts : List Tie) (ad : Nm → Addr) : Prop where
  all : H D = some (.lst (us.map fun u => .ref (ad u)))
  each : ∀ u ∈ us, H (ad u) = some (.lst (pl.map fun x => .int (dist ts u x)))
  ne : ∀ u ∈ us, ad u ≠ D
theorem RowsAt.keep {H H' : Hp} {D : Addr} {pl us : List Nm} {ts : List Tie} {ad : Nm → Addr} (r : RowsAt H D pl us ts ad) (s : Same H H') : RowsAt H' D pl us ts ad := ⟨s _ _ r.all, fun u hu => s _ _ (r.each u hu), r.ne⟩
section
variable {P : Program} {w : World} {K : PySem.W.Frag} {mg : Str → Option Value} {base : Heap}
def spLengths : Sp := fun vs H Q _ => ∃ (v : V) (pl : List Nm) (ts : List Tie), vs = [v] ∧ Dt H v (treeD pl ts) ∧ Fine pl ts ∧ ∀ (H' : Hp) (D : Addr) (ad : Nm → Addr), Same H H' → H D = none → RowsAt H' D pl pl ts ad → Q (.ref D) H'
theorem ok_lengths {f : Addr} {fd : FuncData} (F : Fun K "_law_lengths" "_law_lengths" s_law_lengths f fd) : FnOk P w K mg base CX0 2 f fd ["tree"] spLengths := by
  refine F.ok sc_law_lengths (fun vs H Q E h => ?_) (fun cdv A outer s H vs Q E hr h => ?_)
  · obtain ⟨v, pl, ts, rfl, _⟩ := h
    rfl
  · obtain ⟨v, pl, ts, rfl, hd, fine, q⟩ := h
    obtain ⟨t, a, b, vs, rfl, ht, ha, hb, hA⟩ := dt_tree hd
    refine ⟨_, (pss_cons (ps_asg (pv 0) (pg_tup rfl (pgs_cons (pg_name (i := 1) sc_law_lengths.nd rfl (.inl rfl)) (pgs_cons (pg_name (i := 2) sc_law_lengths.nd rfl (.inl rfl)) pgs_nil))))
      (pss_cons (ps_set (i := 3) sc_law_lengths.nd rfl (.inl rfl) (pe_lst pa_nil))
      (pss_cut (ps_for PassesOwn.never rfl (pi_tup (pv 1)) (pg_name (i := 4) sc_law_lengths.nd rfl (.inl rfl))
        (pss_cons (ps_set (i := 5) sc_law_lengths.nd rfl (.inr rfl) (pe_disp (pps_cons (pv 4) pe_int pps_nil) (by rfl) (by rfl) (fun z => by cases z) (by decide)))
        (pss_cons (ps_set (i := 6) sc_law_lengths.nd rfl (.inl rfl) (pe_lst (pa_cons (pv 4) pa_nil)))
        (pss_cut (ps_while PassesOwn.never (pt_cmpR (op_neD (hd_of hr (by decide))) (pv 6) (pe_lst pa_nil) (nomark _))
          (pss_cons (ps_set (i := 7) sc_law_lengths.nd rfl (.inl rfl) (pe_bm0 PySem.F.plainAttrs_list PySem.F.slot_list_pop PySem.F.type_list_pop mt_pop (pv 6)))
          (pss_one (ps_for PassesOwn.never rfl (pi_tup (pv 2)) (pg_tup rfl (pgs_cons (pg_name (i := 8) sc_law_lengths.nd rfl (.inl rfl)) (pgs_cons (pg_name (i := 9) sc_law_lengths.nd rfl (.inl rfl)) (pgs_cons (pg_name (i := 10) sc_law_lengths.nd rfl (.inl rfl)) pgs_nil))))
            (pss_one (ps_for PassesOwn.never rfl (pi_tup (pe_tup (pa_cons (pe_tup (pa_cons (pv 8) (pa_cons (pv 9) pa_nil))) (pa_cons (pe_tup (pa_cons (pv 9) (pa_cons (pv 8) pa_nil))) pa_nil)))) (pg_tup rfl (pgs_cons (pg_name (i := 11) sc_law_lengths.nd rfl (.inl rfl)) (pgs_cons (pg_name (i := 12) sc_law_lengths.nd rfl (.inl rfl)) pgs_nil)))
              (pss_one (ps_if (PW.pt (pw_and (pt_cmpR op_eq (pv 11) (pv 7) (nomark _)) (pw_and1 (pt_cmp (pc_dnotin (hu_of hr) (pv 12) (pv 5))))))
                (pss_cons (ps_dput (hu_of hr) (pv 5) (pv 12) (pe_op op_add (pe_dget (hu_of hr) (pv 5) (pv 7) (fun _ _ => rfl)) (pv 10)) rfl)
                (pss_one (ps_expr (pe_bm PySem.F.plainAttrs_list PySem.F.slot_list_append PySem.F.type_list_append mt_append (pv 6) (pa_cons (pv 12) pa_nil)))))
                pss_nil))))))))
        (pss_one (ps_expr (pe_bm PySem.F.plainAttrs_list PySem.F.slot_list_append PySem.F.type_list_append mt_append (pv 3) (pa_cons (pe_lc (own := [("other", 9)]) (g := gName 9) (tt := tYes) rfl sc_law_lengths.nd (pi_tup (pv 1)) (blkOk_by (N := N_law_lengths) (sc := defScope s_law_lengths) (by decide +kernel)) (fun _ _ _ _ _ => pg_name (i := 9) sc_law_lengths.nd rfl (Or.inl rfl)) (fun _ _ _ _ _ => pts_nil) (fun _ _ _ _ _ => (pe_dget (hu_of hr) (pv 5) (pv 9) (fun _ _ => rfl)))) pa_nil))))))))
      (pss_one (ps_ret (pv 3)))))), ?_⟩
    have tr := fine.tree
    have nd := tr.nodup
    have pl1 := fine.len
    have tl1 := tr.len
    have vl : vs.length = ts.length := by
      have := DtAll.len hA
      rwa [List.length_map] at this
    refine ⟨_, rfl, t, _, rfl, SqT.of ht, rfl, _, _, rfl, _, _, rfl, rfl, ?_⟩
    refine ⟨Nat.zero_le _, fun D nD => ?_⟩
    refine ⟨fun σ' H' => ∃ (x4 x5 x6 x7 x8 x9 x10 x11 x12 : Option V) (ad : Nm → Addr), σ' = [some (.ref t), some (.ref a), some (.ref b), some (.ref D), x4, x5, x6, x7, x8, x9, x10, x11, x12] ∧ Same H H' ∧ RowsAt H' D pl pl ts ad, ?_, fun σ' H' hM => ?_⟩
    · refine ⟨_, rfl, a, rfl, ⟨_, (ha.same (same_new (Same.refl H) nD)).sq⟩, for_tup (K := K) (a := a) (xs := (pl.map S).map V.str) (fun i σ' H' => ∃ (x4 x5 x6 x7 x8 x9 x10 x11 x12 : Option V) (ad : Nm → Addr), σ' = [some (.ref t), some (.ref a), some (.ref b), some (.ref D), x4, x5, x6, x7, x8, x9, x10, x11, x12] ∧ Same H H' ∧ RowsAt H' D pl (pl.take i) ts ad)
        ⟨none, none, none, none, none, none, none, none, none, fun _ => 0, rfl, same_new (Same.refl H) nD, ⟨upd_same, fun u hu => (by cases hu), fun u hu => (by cases hu)⟩⟩ (fun i σ' H' _ hP => ?_) (fun i x σ' H' hi hP => ?_) (fun σ' H' hP => ?_)⟩
      · obtain ⟨_, _, _, _, _, _, _, _, _, _, _, sm, _⟩ := hP
        exact (ha.same sm).sq
      · obtain ⟨x4, x5, x6, x7, x8, x9, x10, x11, x12, ad, rfl, SM, rows⟩ := hP
        rw [List.getElem?_map, List.getElem?_map] at hi
        cases el : pl[i]? with
        | none =>
          rw [el] at hi
          cases hi
        | some u =>
          rw [el] at hi
          have ex : x = .str (S u) := (Option.some.inj hi).symm
          subst ex
          have hu : u ∈ pl := List.mem_of_getElem? el
          have un : u ∉ pl.take i := fun hm => by
            obtain ⟨j, hj, ej⟩ := List.mem_take_iff_getElem.mp hm
            obtain ⟨hi', ei⟩ := List.getElem?_eq_some_iff.mp el
            have := (List.getElem_inj nd).mp (ej.trans ei.symm)
            omega
          -- far, waiting
          refine fun fa nfa => ⟨_, rfl, upd_same, [(Sum.inr (S u), .int 0)], rfl, (by decide : 1 ≤ 15), ?_⟩
          rw [upd_upd]
          refine ⟨_, rfl, (by show 1 ≤ sizeLine; decide), fun wa nwa => ?_⟩
          have fw : fa ≠ wa := ne_of_none upd_same nwa
          have wa0 : H' wa = none := by
            rw [upd_ne fw.symm] at nwa
            exact nwa
          have L0 : LW H' (upd (upd H' fa (.dK (mergeK [] [((Sum.inr (S u) : Key), V.int 0)]))) wa (.lst [.str (S u)])) fa wa ts u [u] [u] := by
            refine ⟨same_new (same_new (Same.refl H') nfa) nwa, ?_, upd_same⟩
            rw [upd_ne fw]
            refine upd_same.trans ?_
            unfold dkm
            rw [List.map_singleton]
            show some (HO.dK [((Sum.inr (S u) : Key), V.int 0)]) = some (HO.dK [((Sum.inr (S u) : Key), V.int (dist ts u u))])
            rw [(tr.dist_self u).1]
          generalize upd (upd H' fa (.dK (mergeK [] [((Sum.inr (S u) : Key), V.int 0)]))) wa (.lst [.str (S u)]) = H1 at L0
          -- the walk
          refine ⟨fun σ2 H2 => ∃ (fs : List Nm) (prev : Nm → Nm) (x7 x8 x9 x10 x11 x12 : Option V), σ2 = [some (.ref t), some (.ref a), some (.ref b), some (.ref D), some (.str (S u)), some (.ref fa), some (.ref wa), x7, x8, x9, x10, x11, x12] ∧ LW H' H2 fa wa ts u fs [] ∧ Wk pl ts u fs [] prev (fun _ => False), ?_, fun σ2 H2 hM => ?_⟩
          · refine ⟨fun m σ2 H2 => ∃ (fs st : List Nm) (prev : Nm → Nm) (x7 x8 x9 x10 x11 x12 : Option V), σ2 = [some (.ref t), some (.ref a), some (.ref b), some (.ref D), some (.str (S u)), some (.ref fa), some (.ref wa), x7, x8, x9, x10, x11, x12] ∧ LW H' H2 fa wa ts u fs st ∧ Wk pl ts u fs st prev (fun _ => False) ∧ st.length ≤ fs.length ∧ 2 * fs.length + m = 2 * pl.length + st.length,
              ⟨2 * pl.length - 1, [u], [u], fun _ => u, x7, x8, x9, x10, x11, x12, rfl, L0, Wk.start tr hu, Nat.le_refl _, by have := List.length_pos_of_mem hu; simp; omega⟩, ?_⟩
            rintro m σ2 H2 ⟨fs, st, prev, x7, x8, x9, x10, x11, x12, rfl, L2', wk, sl, em⟩
            refine ⟨_, rfl, Nat.zero_le _, fun p2 np2 => ?_⟩
            have L3 := L2'.new (o := .lst []) np2
            have ok : ∀ l ∈ st, NameOk l := fun l hl => fine.ok l (wk.sub l (wk.sti l hl))
            refine ⟨_, _, .lst (SqL.of L3.wait) (dp_strs _ _ st), .lst (SqL.of upd_same) .nil, shaped_strs ok, rfl, _, rfl, ?_⟩
            refine ite2 (fun e1 => ?_) (fun e1 => ?_)
            · rcases List.eq_nil_or_concat st with rfl | ⟨st', h, e⟩
              · exact absurd e1 (by decide)
              rw [List.concat_eq_append] at e
              subst e
              obtain ⟨hh, wk1⟩ := wk.pop
              have fl := nodup_sub_len fs pl wk.nd wk.sub
              rw [List.length_append, List.length_singleton] at em sl
              refine ⟨fun σ' H'' => ∃ (fs' st'' : List Nm) (prev' : Nm → Nm) (x7 x8 x9 x10 x11 x12 : Option V), σ' = [some (.ref t), some (.ref a), some (.ref b), some (.ref D), some (.str (S u)), some (.ref fa), some (.ref wa), x7, x8, x9, x10, x11, x12] ∧ LW H' H'' fa wa ts u fs' st'' ∧ Wk pl ts u fs' st'' prev' (fun _ => False) ∧ fs.length ≤ fs'.length ∧ fs'.length + st'.length = fs.length + st''.length, ?_, ?_⟩
              · rintro σ' H'' ⟨fs', st'', prev', y7, y8, y9, y10, y11, y12, e1, e2, e7, e8, e9⟩
                have fl' := nodup_sub_len fs' pl e7.nd e7.sub
                exact ⟨2 * pl.length + st''.length - 2 * fs'.length, by omega, fs', st'', prev', y7, y8, y9, y10, y11, y12, e1, e2, e7, by omega, by omega⟩
              have hw := L3.wait
              have ne : ((st' ++ [h]).map S).map V.str = (st'.map S).map V.str ++ [.str (S h)] := by
                rw [List.map_append, List.map_append]
                rfl
              rw [ne] at hw
              refine ⟨_, rfl, .inl ⟨rfl, _, SqL.of hw⟩, wa, _, .str (S h), rfl, rfl, hw, by simp, ?_⟩
              rw [List.dropLast_concat]
              have L4 := L3.setW (st' := st') wa0
              generalize upd (upd H2 p2 (.lst [])) wa (.lst ((st'.map S).map V.str)) = H4 at L4
              -- the ties
              refine ⟨_, rfl, b, rfl, ⟨_, SqT.of (L4.same _ _ (SM _ _ hb))⟩, for_tup (K := K) (a := b) (xs := vs) (fun i σ' H'' => ∃ (fs' st'' : List Nm) (prev' : Nm → Nm) (x8 x9 x10 x11 x12 : Option V), σ' = [some (.ref t), some (.ref a), some (.ref b), some (.ref D), some (.str (S u)), some (.ref fa), some (.ref wa), some (.str (S h)), x8, x9, x10, x11, x12] ∧ LW H' H'' fa wa ts u fs' st'' ∧ Wk pl ts u fs' st'' prev' (fun x => x = h) ∧ fs.length ≤ fs'.length ∧ fs'.length + st'.length = fs.length + st''.length ∧ h ∈ fs' ∧ NbT (ts.take i) h fs')
                ⟨fs, st', prev, x8, x9, x10, x11, x12, rfl, L4, wk1, Nat.le_refl _, rfl, hh, fun e he => (by cases he)⟩ (fun i σ' H'' _ hP => ?_) (fun i x σ' H'' hi hP => ?_) (fun σ' H'' hP => ?_)⟩
              · obtain ⟨_, _, _, _, _, _, _, _, _, L5, _⟩ := hP
                exact SqT.of (L5.same _ _ (SM _ _ hb))
              · obtain ⟨fs', st'', prev', y8, y9, y10, y11, y12, rfl, L5, wk5, le5, em5, hh5, nb5⟩ := hP
                obtain ⟨d, hd', hx⟩ := DtAll.get hA hi
                rw [List.getElem?_map] at hd'
                cases ee : ts[i]? with
                | none =>
                  rw [ee] at hd'
                  cases hd'
                | some e =>
                  rw [ee] at hd'
                  have ed : d = tieD e := (Option.some.inj hd').symm
                  subst ed
                  obtain ⟨g, rfl, hg⟩ := dt_tie hx
                  have hem : e ∈ ts := List.mem_of_getElem? ee
                  have et : ts.take (i + 1) = ts.take i ++ [e] := by
                    rw [List.take_add_one, ee]
                    rfl
                  refine ⟨g, _, rfl, SqT.of (L5.same _ _ (SM _ _ hg)), rfl, _, _, rfl, _, _, rfl, _, _, rfl, rfl, ?_⟩
                  -- the two ways about
                  refine ⟨_, rfl, _, rfl, (by show 2 ≤ sizeLine; decide), fun c1 nc1 => ?_⟩
                  have L6 := L5.new (o := .tup [.str (S e.1), .str (S e.2.1)]) nc1
                  refine ⟨_, rfl, _, rfl, (by show 2 ≤ sizeLine; decide), fun c2 nc2 => ?_⟩
                  have L7 := L6.new (o := .tup [.str (S e.2.1), .str (S e.1)]) nc2
                  refine ⟨(by show 2 ≤ sizeLine; decide), fun c3 nc3 => ?_⟩
                  have L8 := L7.new (o := .tup [.ref c1, .ref c2]) nc3
                  have h1 : (upd (upd (upd H'' c1 (.tup [.str (S e.1), .str (S e.2.1)])) c2 (.tup [.str (S e.2.1), .str (S e.1)])) c3 (.tup [.ref c1, .ref c2])) c1 = some (.tup [.str (S e.1), .str (S e.2.1)]) := ((TK.new nc2).trans (TK.new nc3)).tup _ _ upd_same
                  have h2 : (upd (upd (upd H'' c1 (.tup [.str (S e.1), .str (S e.2.1)])) c2 (.tup [.str (S e.2.1), .str (S e.1)])) c3 (.tup [.ref c1, .ref c2])) c2 = some (.tup [.str (S e.2.1), .str (S e.1)]) := (TK.new nc3).tup _ _ upd_same
                  have h3 : (upd (upd (upd H'' c1 (.tup [.str (S e.1), .str (S e.2.1)])) c2 (.tup [.str (S e.2.1), .str (S e.1)])) c3 (.tup [.ref c1, .ref c2])) c3 = some (.tup [.ref c1, .ref c2]) := upd_same
                  generalize upd (upd (upd H'' c1 (.tup [.str (S e.1), .str (S e.2.1)])) c2 (.tup [.str (S e.2.1), .str (S e.1)])) c3 (.tup [.ref c1, .ref c2]) = H8 at L8 h1 h2 h3
                  refine ⟨c3, rfl, ⟨_, SqT.of h3⟩, for_tup (K := K) (a := c3) (xs := [.ref c1, .ref c2]) (fun j σ' H9 => ∃ (fs' st'' : List Nm) (prev' : Nm → Nm) (x11 x12 : Option V), σ' = [some (.ref t), some (.ref a), some (.ref b), some (.ref D), some (.str (S u)), some (.ref fa), some (.ref wa), some (.str (S h)), some (.str (S e.1)), some (.str (S e.2.1)), some (.int e.2.2), x11, x12] ∧ LW H' H9 fa wa ts u fs' st'' ∧ TK H8 H9 ∧ Wk pl ts u fs' st'' prev' (fun x => x = h) ∧ fs.length ≤ fs'.length ∧ fs'.length + st'.length = fs.length + st''.length ∧ h ∈ fs' ∧ NbT (ts.take i) h fs' ∧ (1 ≤ j → e.1 = h → e.2.1 ∈ fs') ∧ (2 ≤ j → e.2.1 = h → e.1 ∈ fs'))
                    ⟨fs', st'', prev', y11, y12, rfl, L8, TK.refl _, wk5, le5, em5, hh5, nb5, fun z => absurd z (by omega), fun z => absurd z (by omega)⟩ (fun j σ' H9 _ hP => ?_) (fun j x σ' H9 hj hP => ?_) (fun σ' H9 hP => ?_)⟩
                  · obtain ⟨_, _, _, _, _, _, _, tk, _⟩ := hP
                    exact SqT.of (tk.tup _ _ h3)
                  · clear wk5 le5 em5 hh5 nb5 L5 L6 L7 L8
                    clear fs' st'' prev'
                    obtain ⟨fs', st'', prev', y11, y12, rfl, L9, tk9, wk9, le9, em9, hh9, nb9, n1, n2⟩ := hP
                    obtain ⟨cc, pp, qq, rfl, hcc, hpq⟩ : ∃ (cc : Addr) (pp qq : Nm), x = .ref cc ∧ H8 cc = some (.tup [.str (S pp), .str (S qq)]) ∧ ((j = 0 ∧ pp = e.1 ∧ qq = e.2.1) ∨ (j = 1 ∧ pp = e.2.1 ∧ qq = e.1)) := by
                      match j, hj with
                      | 0, hj => exact ⟨c1, _, _, (Option.some.inj hj).symm, h1, .inl ⟨rfl, rfl, rfl⟩⟩
                      | 1, hj => exact ⟨c2, _, _, (Option.some.inj hj).symm, h2, .inr ⟨rfl, rfl, rfl⟩⟩
                    have adj : Adj ts pp qq e.2.2 := by
                      rcases hpq with ⟨_, z1, z2⟩ | ⟨_, z1, z2⟩ <;> rw [z1, z2]
                      · exact .inl hem
                      · exact .inr hem
                    have fl' := nodup_sub_len fs' pl wk9.nd wk9.sub
                    have szf : ∀ f : Nm → V, (dkm fs' f).length < sizeLine := fun f => by
                      unfold dkm
                      rw [List.length_map]
                      exact sz_lt (by omega)
                    -- what is known behind the turn, once qq is come to if pp is h
                    have nx : ∀ fs2 : List Nm, (∀ x ∈ fs', x ∈ fs2) → (pp = h → qq ∈ fs2) → NbT (ts.take i) h fs2 ∧ (1 ≤ j + 1 → e.1 = h → e.2.1 ∈ fs2) ∧ (2 ≤ j + 1 → e.2.1 = h → e.1 ∈ fs2) := fun fs2 sub hq => by
                      refine ⟨fun e' he' => ⟨fun z => sub _ ((nb9 e' he').1 z), fun z => sub _ ((nb9 e' he').2 z)⟩, fun _ z => ?_, fun z2 z => ?_⟩
                      · rcases hpq with ⟨j0, z1, z2⟩ | ⟨j1, z1, z2⟩
                        · rw [← z2]
                          exact hq (z1.trans z)
                        · exact sub _ (n1 (by omega) z)
                      · rcases hpq with ⟨j0, z1, z2'⟩ | ⟨j1, z1, z2'⟩
                        · omega
                        · rw [← z2']
                          exact hq (z1.trans z)
                    refine ⟨cc, _, rfl, SqT.of (tk9.tup _ _ hcc), rfl, _, _, rfl, _, _, rfl, rfl, ?_⟩
                    refine ⟨_, rfl, _, rfl, rfl, _, rfl, ?_⟩
                    refine ite2 (fun z1 => ?_) (fun z1 => ?_)
                    · have ph : pp = h := by
                        have := of_decide_eq_true z1
                        exact SX.S_inj (V.str.inj this)
                      refine ⟨_, rfl, _, rfl, fa, _, rfl, DGet.k (k := Sum.inr (S qq)) L9.far, _, rfl, ?_⟩
                      rw [dkm_some]
                      by_cases hy : qq ∈ fs'
                      · rw [decide_eq_true hy]
                        obtain ⟨k1, k2, k3⟩ := nx fs' (fun _ z => z) fun _ => hy
                        exact iteF ⟨fs', st'', prev', _, _, rfl, L9, tk9, wk9, le9, em9, hh9, k1, k2, k3⟩
                      · rw [decide_eq_false hy]
                        refine iteT ?_
                        rw [ph] at adj
                        obtain ⟨e1, wk8⟩ := wk9.push tr hh9 adj hy
                        refine ⟨_, rfl, _, rfl, fa, .int (dist ts u h), rfl, by rw [← dkm_get (f := fun x => V.int (dist ts u x)) hh9]; exact DGet.k (k := Sum.inr (S h)) L9.far, _, rfl, _, _, rfl, rfl, _, rfl, _, rfl, fa, _, rfl, DPut.k (k := Sum.inr (S qq)) L9.far (szf _), ?_⟩
                        rw [dkm_new hy]
                        have L10 := L9.setF nfa e1
                        have tk10 := tk9.trans (tkD (o := .dK (dkm (fs' ++ [qq]) fun z => if z = qq then V.int (dist ts u h + e.2.2) else .int (dist ts u z))) L9.far)
                        generalize upd H9 fa (.dK (dkm (fs' ++ [qq]) fun z => if z = qq then V.int (dist ts u h + e.2.2) else .int (dist ts u z))) = H10 at L10 tk10
                        have stl : st''.length ≤ 3000 := by omega
                        refine ⟨_, rfl, .inl ⟨rfl, _, SqL.of L10.wait⟩, _, rfl, wa, _, _, rfl, rfl, L10.wait, by rw [List.length_map, List.length_map]; exact sz_lt (by omega), ?_⟩
                        obtain ⟨k1, k2, k3⟩ := nx (fs' ++ [qq]) (fun _ z => List.mem_append_left _ z) fun _ => List.mem_append_right _ (List.mem_singleton.mpr rfl)
                        have ea : (st''.map S).map V.str ++ [V.str (S qq)] = ((st'' ++ [qq]).map S).map V.str := by
                          rw [List.map_append, List.map_append]
                          rfl
                        rw [ea]
                        exact ⟨fs' ++ [qq], st'' ++ [qq], _, _, _, rfl, L10.setW wa0, tk10.trans (TK.mut L10.wait), wk8, by rw [List.length_append]; omega, by rw [List.length_append, List.length_append]; omega, List.mem_append_left _ hh9, k1, k2, k3⟩
                    · have ph : pp ≠ h := fun z => by
                        rw [z] at z1
                        exact z1 (decide_eq_true rfl)
                      obtain ⟨k1, k2, k3⟩ := nx fs' (fun _ z => z) fun z => absurd z ph
                      exact ⟨fs', st'', prev', _, _, rfl, L9, tk9, wk9, le9, em9, hh9, k1, k2, k3⟩
                  · obtain ⟨fs', st'', prev', y11, y12, rfl, L9, tk9, wk9, le9, em9, hh9, nb9, n1, n2⟩ := hP
                    refine ⟨fs', st'', prev', _, _, _, _, _, rfl, L9, wk9, le9, em9, hh9, fun e' he' => ?_⟩
                    rw [et] at he'
                    rcases List.mem_append.mp he' with z | z
                    · exact nb9 e' z
                    · rw [List.mem_singleton.mp z]
                      exact ⟨n1 (by simp), n2 (by simp)⟩
              · obtain ⟨fs', st'', prev', y8, y9, y10, y11, y12, rfl, L5, wk5, le5, em5, hh5, nb5⟩ := hP
                rw [vl, List.take_length] at nb5
                refine ⟨fs', st'', prev', _, _, _, _, _, _, rfl, L5, wk5.shut fun y k hadj => ?_, le5, em5⟩
                rcases hadj with z | z
                · exact (nb5 _ z).1 rfl
                · exact (nb5 _ z).2 rfl
            · have st0 : st = [] := by
                cases st with
                | nil => rfl
                | cons a r => exact absurd rfl e1
              subst st0
              exact ⟨fs, prev, _, _, _, _, _, _, rfl, L3, wk⟩
          · obtain ⟨fs, prev, x7, x8, x9, x10, x11, x12, rfl, L2', wk⟩ := hM
            have wall := wk.all tr
            have ha2 := ha.same (SM.trans L2'.same)
            refine ⟨_, rfl, .inl ⟨rfl, _, SqL.of (L2'.same _ _ rows.all)⟩, _, rfl, a, rfl, ⟨_, ha2.sq⟩, fun R nR => ?_⟩
            have Ra : a ≠ R := ha2.ne nR
            have Rf : fa ≠ R := ne_of_none L2'.far nR
            refine lc_tup (K := K) (a := a) (xs := (pl.map S).map V.str) (fun i H' => H' = upd H2 R (.lst ((pl.take i).map fun x => .int (dist ts u x)))) rfl (fun i H' _ hP => ?_) (fun i x H' hi hP => ?_) (fun H3 hP => ?_)
            · rw [hP]
              exact (ha2.updN Ra).sq
            · subst hP
              rw [List.getElem?_map, List.getElem?_map] at hi
              cases el : pl[i]? with
              | none =>
                rw [el] at hi
                cases hi
              | some l =>
                rw [el] at hi
                have ex : x = .str (S l) := (Option.some.inj hi).symm
                subst ex
                have hl := (wall l).mpr (List.mem_of_getElem? el)
                refine ⟨rfl, _, rfl, _, rfl, fa, .int (dist ts u l), rfl, by rw [← dkm_get (f := fun x => V.int (dist ts u x)) hl]; exact DGet.k (k := Sum.inr (S l)) ((upd_ne Rf).trans L2'.far), _, upd_same, by rw [List.length_map, List.length_take]; exact sz_lt (by omega), ?_⟩
                rw [upd_upd, List.take_add_one, el, List.map_append]
                rfl
            · subst hP
              rw [List.length_map, List.length_map, List.take_length]
              have s3 := same_new (o := .lst (pl.map fun x => V.int (dist ts u x))) L2'.same nR
              have rows3 := rows.keep s3
              have DR : D ≠ R := ne_of_none (L2'.same _ _ rows.all) nR
              refine ⟨D, _, _, rfl, rfl, rows3.all, by rw [List.length_map, List.length_take]; exact sz_lt (by omega), ?_⟩
              have et : pl.take (i + 1) = pl.take i ++ [u] := by
                rw [List.take_add_one, el]
                rfl
              refine ⟨_, _, _, _, _, _, _, _, _, fun z => if z = u then R else ad z, rfl, same_put (SM.trans s3) nD, ?_⟩
              rw [et]
              refine ⟨?_, fun z hz => ?_, fun z hz => ?_⟩
              · rw [upd_same, List.map_append, List.map_singleton, if_pos rfl]
                refine congrArg (fun z => some (HO.lst (z ++ [V.ref R]))) (List.map_congr_left fun z hz => ?_)
                rw [if_neg (fun (e : z = u) => un (e ▸ hz))]
              · rcases List.mem_append.mp hz with y | y
                · rw [if_neg (fun (e : z = u) => un (e ▸ y)), upd_ne (rows.ne z y)]
                  exact rows3.each z y
                · rw [List.mem_singleton.mp y, if_pos rfl, upd_ne DR.symm]
                  exact upd_same
              · rcases List.mem_append.mp hz with y | y
                · show (if z = u then R else ad z) ≠ D
                  rw [if_neg (fun (e : z = u) => un (e ▸ y))]
                  exact rows.ne z y
                · show (if z = u then R else ad z) ≠ D
                  rw [if_pos (List.mem_singleton.mp y)]
                  exact DR.symm
      · obtain ⟨x4, x5, x6, x7, x8, x9, x10, x11, x12, ad, rfl, SM, rows⟩ := hP
        rw [List.length_map, List.length_map, List.take_length] at rows
        exact ⟨_, _, _, _, _, _, _, _, _, ad, rfl, SM, rows⟩
    · obtain ⟨x4, x5, x6, x7, x8, x9, x10, x11, x12, ad, rfl, SM, rows⟩ := hM
      exact ⟨_, rfl, q H' D ad SM nD rows⟩
end
end Far

namespace Far
open PySem PySem.Spec PyProof.Rows L2
open C8 (pss_cut tCut)
open SX (S)
abbrev Tri := Int × Nm × Nm
def triD (x : Tri) : PyData := .tuple [.int x.1, .str (S x.2.1), .str (S x.2.2)]
/-- the pairs of place i with those behind it -/
noncomputable def rowP (pl : List Nm) (ts : List Tie) (i : Nat) : List Tri := (pl.drop (i + 1)).map fun y => (dist ts (pl.getD i []) y, pl.getD i [], y)
/-- those of the first n places -/
noncomputable def prs (pl : List Nm) (ts : List Tie) (n : Nat) : List Tri := (List.range n).flatMap (rowP pl ts)
/-- all pairs of two places, in order -/
noncomputable def pairsOf (pl : List Nm) (ts : List Tie) : List Tri := prs pl ts pl.length
theorem prs_succ (pl : List Nm) (ts : List Tie) (n : Nat) : prs pl ts (n + 1) = prs pl ts n ++ rowP pl ts n := by
  unfold prs
  rw [List.range_succ, List.flatMap_append, List.flatMap_singleton]
theorem rowP_len (pl : List Nm) (ts : List Tie) (i : Nat) : (rowP pl ts i).length = pl.length - (i + 1) := by
  unfold rowP
  rw [List.length_map, List.length_drop]
theorem prs_len (pl : List Nm) (ts : List Tie) : ∀ n, (prs pl ts n).length ≤ n * pl.length
  | 0 => Nat.zero_le _
  | n + 1 => by
    have ih := prs_len pl ts n
    rw [prs_succ, List.length_append, rowP_len, Nat.succ_mul]
    omega
theorem rowP_at {pl : List Nm} {ts : List Tie} {i j : Nat} {x y : Nm} (hx : pl[i]? = some x) (hy : pl[i + 1 + j]? = some y) : (rowP pl ts i)[j]? = some (dist ts x y, x, y) := by
  have ex : pl.getD i [] = x := by
    show (pl[i]?).getD [] = x
    rw [hx]
    rfl
  unfold rowP
  rw [ex, List.getElem?_map, List.getElem?_drop, hy]
  rfl
end Far

namespace Far
open PySem
open SX (S)
/-! ### ways cut, put together -/
theorem snoc_cons {α : Type} {p p1 p2 : List α} {w m : α} (h : p ++ [w] = p1 ++ m :: p2) : (p2 = [] ∧ p1 = p ∧ m = w) ∨ ∃ p3, p2 = p3 ++ [w] ∧ p = p1 ++ m :: p3 := by
  rcases List.eq_nil_or_concat p2 with e | ⟨p3, z, e⟩
  · subst e
    have := List.append_inj' h rfl
    exact .inl ⟨rfl, this.1.symm, by simpa using this.2.symm⟩
  · rw [e] at h ⊢
    have h' : p ++ [w] = (p1 ++ m :: p3) ++ [z] := by rw [h]; simp
    have := List.append_inj' h' rfl
    refine .inr ⟨p3, ?_, this.1⟩
    have : w = z := by simpa using this.2
    rw [this]
    simp
theorem Way.split {ts : List Tie} {u v : Nm} {p : List Nm} {L : Int} (h : Way ts u v p L) : ∀ {p1 p2 : List Nm} {m : Nm}, p = p1 ++ m :: p2 → ∃ L1 L2, Way ts u m (p1 ++ [m]) L1 ∧ Way ts m v (m :: p2) L2 ∧ L = L1 + L2 := by
  induction h with
  | nil =>
    intro p1 p2 m e
    have h1 : p1 = [] ∧ m = u ∧ p2 = [] := by
      cases p1 with
      | nil =>
        have := List.cons.inj e
        exact ⟨rfl, this.1.symm, this.2.symm⟩
      | cons a r =>
        have := congrArg List.length e
        simp at this
    obtain ⟨rfl, rfl, rfl⟩ := h1
    exact ⟨0, 0, .nil, .nil, by omega⟩
  | @snoc v w p L k h1 ha hn ih =>
    intro p1 p2 m e
    rcases snoc_cons e with ⟨rfl, rfl, rfl⟩ | ⟨p3, rfl, rfl⟩
    · exact ⟨L + k, 0, .snoc h1 ha hn, .nil, by omega⟩
    · obtain ⟨L1, L2, w1, w2, el⟩ := ih rfl
      exact ⟨L1, L2 + k, w1, .snoc w2 ha (fun z => hn (List.mem_append_right _ z)), by omega⟩
theorem Way.join {ts : List Tie} {u m v : Nm} {p1 q : List Nm} {L1 L2 : Int} (h1 : Way ts u m (p1 ++ [m]) L1) (h2 : Way ts m v q L2) (d : ∀ y ∈ q, y ∉ p1) : Way ts u v (p1 ++ q) (L1 + L2) := by
  induction h2 with
  | nil => simpa using h1
  | @snoc v w q L k h ha hn ih =>
    have := Way.snoc (ih fun y hy => d y (List.mem_append_left _ hy)) ha (w := w) (fun z => by
      rcases List.mem_append.mp z with z | z
      · exact d w (by simp) z
      · exact hn z)
    rw [List.append_assoc] at this
    rw [← Int.add_assoc]
    exact this
theorem first_in (q : List Nm) : ∀ {p : List Nm}, (∃ y ∈ p, y ∈ q) → ∃ A m B, p = A ++ m :: B ∧ m ∈ q ∧ ∀ y ∈ A, y ∉ q
  | [], h => by simp at h
  | a :: r, h => by
    by_cases e : a ∈ q
    · exact ⟨[], a, r, rfl, e, by simp⟩
    · obtain ⟨y, hy, hq⟩ := h
      rcases List.mem_cons.mp hy with z | z
      · exact absurd (z ▸ hq) e
      · obtain ⟨A, m, B, e1, e2, e3⟩ := first_in q ⟨y, z, hq⟩
        refine ⟨a :: A, m, B, by rw [e1]; rfl, e2, fun y hy => ?_⟩
        rcases List.mem_cons.mp hy with z | z
        · exact z ▸ e
        · exact e3 y z
theorem last_of {p : List Nm} {x : Nm} {A B : List Nm} {m : Nm} (h : p ++ [x] = A ++ m :: B) : (B = [] ∧ m = x) ∨ x ∈ B := by
  rcases snoc_cons h with ⟨e, _, em⟩ | ⟨p3, e, _⟩
  · exact .inl ⟨e, em⟩
  · exact .inr (by rw [e]; simp)
/-- the place where three ways meet -/
theorem IsTree.median {pl : List Nm} {ts : List Tie} (h : IsTree pl ts) {u v x : Nm} (hu : u ∈ pl) (hv : v ∈ pl) (hx : x ∈ pl) : ∃ (m : Nm) (A B C : List Nm) (d : Int), path ts u x = A ++ m :: B ∧ path ts x v = B.reverse ++ m :: C ∧ path ts u v = A ++ m :: C ∧
    (∀ y ∈ A, y ∉ path ts x v) ∧ dist ts u x + dist ts x v = dist ts u v + 2 * d ∧ 0 ≤ d ∧ (d = 0 ↔ B = []) := by
  have wp := h.the_way hu hx
  have wq := h.the_way hx hv
  obtain ⟨A, m, B, ep, mq, dA⟩ := first_in (path ts x v) ⟨x, wp.mem, by
    obtain ⟨r, e⟩ := wq.first
    rw [e]
    simp⟩
  obtain ⟨B', C, eq⟩ := List.append_of_mem mq
  obtain ⟨L1, L2, w1, w2, el⟩ := wp.split ep
  obtain ⟨L3, L4, w3, w4, el2⟩ := wq.split eq
  have wr := w2.rev
  rw [List.reverse_cons] at wr
  obtain ⟨eb, e23⟩ := h.one_way w3 wr
  have eb' : B' = B.reverse := (List.append_inj' eb rfl).1
  subst eb'
  have wj := w1.join w4 (fun y hy z => dA y z (by rw [eq]; exact List.mem_append_right _ hy))
  obtain ⟨f1, f2⟩ := h.is_way wj
  obtain ⟨n0, n1⟩ := w2.nonneg (fun e he => (h.ties e he).2.2.1)
  refine ⟨m, A, B, C, L2, ep, eq, f1, dA, by omega, n0, ?_, fun e => ?_⟩
  · intro e
    rw [List.length_cons] at n1
    exact List.eq_nil_of_length_eq_zero (by omega)
  · subst e
    obtain ⟨r, er⟩ := w2.last
    have em : x = m := by
      cases r with
      | nil => exact (List.cons.inj er).1.symm
      | cons a r =>
        have := congrArg List.length er
        simp at this
    subst em
    exact (h.one_way w2 .nil).2
/-- over a third place no way is shorter; just as long where it is on the way -/
theorem IsTree.over {pl : List Nm} {ts : List Tie} (h : IsTree pl ts) {u v x : Nm} (hu : u ∈ pl) (hv : v ∈ pl) (hx : x ∈ pl) : dist ts u v ≤ dist ts u x + dist ts x v ∧ (dist ts u x + dist ts x v = dist ts u v ↔ x ∈ path ts u v) ∧
    ∃ m, (path ts u v).filter (fun y => decide (y ∈ path ts u x) && decide (y ∈ path ts x v)) = [m] := by
  obtain ⟨m, A, B, C, d, e1, e2, e3, dA, ed, d0, db⟩ := h.median hu hv hx
  have np := (h.the_way hu hx).nodup
  have nq := (h.the_way hx hv).nodup
  obtain ⟨r, er⟩ := (h.the_way hu hx).last
  obtain ⟨t, et⟩ := (h.the_way hx hv).first
  rw [e1] at np er
  rw [e2] at nq et dA
  have qd := List.nodup_append.mp nq
  have pd := List.nodup_append.mp np
  refine ⟨by omega, ⟨fun e => ?_, fun e => ?_⟩, m, ?_⟩
  · have b0 := db.mp (by omega)
    subst b0
    rcases last_of er.symm with ⟨_, em⟩ | z
    · rw [e3, ← em]
      simp
    · cases z
  · rcases last_of er.symm with ⟨b0, _⟩ | z
    · have := db.mpr b0
      omega
    · exfalso
      rw [e3] at e
      rcases List.mem_append.mp e with q | q
      · exact pd.2.2 x q x (List.mem_cons_of_mem _ z) rfl
      · rcases List.mem_cons.mp q with q | q
        · exact (List.nodup_cons.mp pd.2.1).1 (q ▸ z)
        · have : x ∈ B.reverse := List.mem_reverse.mpr z
          exact qd.2.2 x this x (List.mem_cons_of_mem _ q) rfl
  · rw [e3, e1, e2, List.filter_append]
    have fA : A.filter (fun y => decide (y ∈ A ++ m :: B) && decide (y ∈ B.reverse ++ m :: C)) = [] := by
      refine List.filter_eq_nil_iff.mpr fun y hy => ?_
      simp only [Bool.and_eq_true, decide_eq_true_eq, not_and]
      exact fun _ => dA y hy
    have fC : C.filter (fun y => decide (y ∈ A ++ m :: B) && decide (y ∈ B.reverse ++ m :: C)) = [] := by
      refine List.filter_eq_nil_iff.mpr fun y hy => ?_
      simp only [Bool.and_eq_true, decide_eq_true_eq, not_and]
      intro z _
      rcases List.mem_append.mp z with z | z
      · exact dA y z (List.mem_append_right _ (List.mem_cons_of_mem _ hy))
      · rcases List.mem_cons.mp z with z | z
        · exact (List.nodup_cons.mp qd.2.1).1 (z ▸ hy)
        · exact qd.2.2 y (List.mem_reverse.mpr z) y (List.mem_cons_of_mem _ hy) rfl
    rw [fA, List.filter_cons, if_pos (by simp), fC]
    rfl
/-- two beside one another -/
theorem Way.two {ts : List Tie} {u v : Nm} {k : Int} (h : Adj ts u v k) (ne : v ≠ u) : Way ts u v [u, v] k := by
  have := Way.snoc (ts := ts) (u := u) .nil h (by simpa using ne)
  simpa using this
theorem Grown.adj_ne {os : List Nm} {es : List Tie} (g : Grown os es) : ∀ {u v : Nm} {k : Int}, Adj es u v k → v ≠ u := by
  induction g with
  | one a =>
    intro u v k h
    rcases h with h | h <;> cases h
  | @leaf os es a b k0 e0 g ha hbn he k1 k2 ih =>
    intro u v k h
    have hb : ∀ e ∈ es, e.1 ≠ b ∧ e.2.1 ≠ b := fun e hm => by
      obtain ⟨i1, i2, _⟩ := g.ties e hm
      exact ⟨fun z => hbn (z ▸ i1), fun z => hbn (z ▸ i2)⟩
    have ab : a ≠ b := fun z => hbn (z ▸ ha)
    rcases adj_new hb ab he h with ⟨h, _, _⟩ | ⟨e1, e2, _⟩ | ⟨e1, e2, _⟩
    · exact ih h
    · rw [e1, e2]
      exact Ne.symm ab
    · rw [e1, e2]
      exact ab
theorem IsTree.adj_ne {pl : List Nm} {ts : List Tie} (h : IsTree pl ts) {u v : Nm} {k : Int} (a : Adj ts u v k) : v ≠ u := by
  obtain ⟨os, es, g, _, p2⟩ := h
  exact g.adj_ne (a.perm p2)
theorem IsTree.adj_one {pl : List Nm} {ts : List Tie} (h : IsTree pl ts) {u v : Nm} {k l : Int} (a : Adj ts u v k) (b : Adj ts u v l) : k = l := (h.one_way (Way.two a (h.adj_ne a)) (Way.two b (h.adj_ne b))).2
/-- the ties of a way -/
theorem Way.hops {ts : List Tie} {u v : Nm} {p : List Nm} {L : Int} (h : Way ts u v p L) : ∃ ks : List Int, ks.length + 1 = p.length ∧ ks.sum = L ∧ ∀ (i : Nat) (x y : Nm), p[i]? = some x → p[i + 1]? = some y → ∃ k, ks[i]? = some k ∧ Adj ts x y k := by
  induction h with
  | nil => exact ⟨[], rfl, rfl, fun i x y _ e => by simp at e⟩
  | @snoc v w p L k h ha hn ih =>
    obtain ⟨ks, e1, e2, e3⟩ := ih
    refine ⟨ks ++ [k], by simp [e1], by simp [e2], fun i x y ex ey => ?_⟩
    by_cases lt : i + 1 < p.length
    · rw [List.getElem?_append_left (by omega)] at ex
      rw [List.getElem?_append_left lt] at ey
      obtain ⟨k', f1, f2⟩ := e3 i x y ex ey
      exact ⟨k', by rw [List.getElem?_append_left (by omega)]; exact f1, f2⟩
    · have ei : i + 1 = p.length := by
        have := (List.getElem?_eq_some_iff.mp ey).1
        simp at this
        omega
      rw [List.getElem?_append_left (by omega)] at ex
      rw [ei, List.getElem?_append_right (by omega)] at ey
      simp at ey
      obtain ⟨q, eq⟩ := h.last
      rw [eq] at ex ei
      rw [List.length_append, List.length_singleton] at ei
      have ei' : i = q.length := by omega
      rw [ei', List.getElem?_append_right (by omega)] at ex
      simp at ex
      rw [← ex, ← ey]
      refine ⟨k, ?_, ha⟩
      have : ks.length = i := by
        rw [eq, List.length_append, List.length_singleton] at e1
        omega
      rw [← this]
      simp
end Far

namespace Far
open PySem PySem.Spec PyProof.Rows L2
/-! ### enumerate(t), t a tuple -/
theorem meets_enumT {v : Value} {o : Obj} {H : Heap → Prop} (B : Begins v o H) :
    Meets (Builtin.«enumerate.__new__» ⟨[.type "enumerate", v], []⟩) (fun _ R s => H s.heap ∧
      R (.ok (.ret (.ref (s.heap.push o).objs.size))) { s with heap := (s.heap.push o).push { cls := .type "enumerate", data := .fields #[.none, .bool false, .ref s.heap.objs.size, rawInt 0, .none, .none] } }) :=
  .of_wp fun prog w A R s h => by
    obtain ⟨hp, g, d, tk, os⟩ := s; obtain ⟨h1, h⟩ := h
    have hsub := sub_enumerate
    have q1 : ∀ {A' : Around} {E : Value → Shared → Prop} {Q : Value → Shared → Prop}, Q (.ref hp.objs.size) ⟨hp.push o, g, d, tk, os⟩ → wpAny (model prog w) A' (pyIter v) Q E ⟨hp, g, d, tk, os⟩ :=
      fun q => B.iter prog w _ _ ⟨hp, g, d, tk, os⟩ _ h1 q
    wp_walk using q1
    refine wpAny_stack_any fun st => wpAny_pure ?_
    split
    · rename_i c _ _ _ _ _
      cases (c == Value.type "enumerate")
      · wp_walk using q1
        exact ⟨_, rfl, h⟩
      · wp_walk using q1
        exact ⟨_, rfl, h⟩
    · wp_walk using q1
      exact ⟨_, rfl, h⟩
theorem enumT_begins {prog : Program} {w : World} {A : Around} {E : Value → Shared → Prop} {s : Shared} {v : Value} {o : Obj} {H : Heap → Prop} {Q : Value → Shared → Prop} (B : Begins v o H) (h1 : H s.heap)
    (h : ∀ h', IsEnum h' (s.heap.objs.size + 1) s.heap.objs.size 0 .none → h'.get? s.heap.objs.size = some o → h'.objs.size = s.heap.objs.size + 2 →
      (∀ b o, s.heap.get? b = some o → h'.get? b = some o) → Q (.ref (s.heap.objs.size + 1)) { s with heap := h' }) :
    wpAny (model prog w) A (call (.type "enumerate") [v]) Q E s := by
  refine callType_new F.called_enumerate (by decide) (F.typeCall_enumerate_1 _) (F.newCall_enumerate_1 _) (fun obj => F.args_object_init_2 obj _) F.entry_enumerate_new
    (meets_enumT B) ⟨h1, ?_⟩
  have hz : (s.heap.push o).objs.size = s.heap.objs.size + 1 := Heap.size_push ..
  show _ ∧ _
  rw [hz]
  have he : IsEnum ((s.heap.push o).push { cls := .type "enumerate", data := .fields #[.none, .bool false, .ref s.heap.objs.size, rawInt 0, .none, .none] }) (s.heap.objs.size + 1) s.heap.objs.size 0 .none := by
    have := Heap.get?_push_size (s.heap.push o) (o := { cls := .type "enumerate", data := .fields #[.none, .bool false, .ref s.heap.objs.size, rawInt 0, .none, .none] }) rfl
    rw [hz] at this; exact this
  refine ⟨⟨_, he, rfl⟩, h _ he (Heap.get?_push_of_some _ (Heap.get?_push_size _ B.free)) (by rw [Heap.size_push, hz]) fun b o x => Heap.get?_push_of_some _ (Heap.get?_push_of_some _ x)⟩
/-- the tuple at a, each item in a new pair with its number -/
def Itne (K : PySem.W.Frag) (a : Addr) : It :=
  ⟨fun i H => ∃ (xs : List V) (x : V), SqT K H a xs ∧ xs[i]? = some x,
   fun i H v H' => ∃ T x, v = .ref T ∧ H T = none ∧ H' = upd H T (.tup [.int (i : Nat), x]) ∧ ∀ xs, SqT K H a xs → xs[i]? = some x,
   fun i H => ∃ xs : List V, SqT K H a xs ∧ xs.length ≤ i⟩
theorem turn_enumT {P : Program} {w : World} {K : PySem.W.Frag} {elts : List Expr} {kk : Nat} {tpos : Pos} (a e it : Addr) :
    Turn P w K (.Tuple elts kk tpos) (Itne K a) [e, it] e (fun i h => (∃ o, IsEnum h e it ((i : Nat) : Int) o) ∧ h.IsTupleIter it a i ∧ e ≠ it ∧ a ≠ it) where
  mem := by simp
  obj := fun i h st b hb => by
    obtain ⟨⟨o', he⟩, ⟨o, ho, hc, hd⟩, _⟩ := st
    rcases (show b = e ∨ b = it by simpa using hb) with rfl | rfl
    · exact ⟨_, he, fun v q => nomatch q⟩
    · exact ⟨o, ho, fun v q => by rw [hd] at q; cases q⟩
  keep := fun i h h' ⟨⟨o, he⟩, hi, hne⟩ k => ⟨⟨o, k e (by simp) _ he⟩, hi.at fun o q => k it (by simp) o q, hne⟩
  item := by
    intro X hP hw hK hc i pins s σ H E I hf st hg
    subst hP hw hK
    obtain ⟨⟨old, he⟩, hit, hne, hna⟩ := st
    obtain ⟨xs, x, hq, hx⟩ := hg
    obtain ⟨its, rv, p, hz⟩ := I.tuple hq
    have p' : s.heap.IsTuple a its.toArray := p
    obtain ⟨u, hu, ru⟩ := rv.get hx
    have hel : e < s.heap.objs.size := Heap.lt_size he
    have hil : it < s.heap.objs.size := by
      obtain ⟨_, q, _⟩ := hit
      exact Heap.lt_size q
    have hea : e ∉ [it, a] := by
      intro hm
      rcases List.mem_cons.mp hm with z | z
      · exact hne z
      · have z := List.mem_singleton.mp z
        obtain ⟨o, m, q, _⟩ := p'
        rw [← z, he] at m
        cases m
        have q : Value.type "enumerate" = Value.type "tuple" := q
        exact absurd q (by decide)
    have hlt : i < its.toArray.size := by
      have := (List.getElem?_eq_some_iff.mp hu).1
      simpa using this
    refine wpAny_pyNext_enum_itemC (Draws.tuple (A := X.A.in1) (I.ok.hd hc) it a hna its.toArray) he ⟨hit, p'⟩ hlt hne hea fun x' h' tk hx' ho hst' hT hsz hk => ?_
    have ex : x' = u := by
      have : its.toArray[i]? = some u := by simpa using hu
      exact Option.some.inj (hx'.symm.trans this)
    subst ex
    refine ⟨_, rfl, wpAny_letOwnedTupleGo_enum (s := { s with heap := h', toks := tk + 1 }) ho fun h2 he2 sb => ?_⟩
    have hT2 : h2.get? s.heap.objs.size = some { cls := .type "tuple", data := .seq #[.int (i : Nat) tk, x'] } := (sb.2 _ (Nat.ne_of_gt hel)).trans hT
    have new : ObjOk X.prog X.w (upd H s.heap.objs.size (.tup [.int (i : Nat), x])) h2 s.heap.objs.size (.tup [.int (i : Nat), x]) :=
      ⟨by show 2 ≤ sizeLine; decide, [.int (i : Nat) tk, x'], .cons ⟨_, rfl⟩ (.cons ru .nil), ⟨_, hT2, rfl, _, rfl⟩⟩
    have I1 : Inv X pins σ (upd H s.heap.objs.size (.tup [.int (i : Nat), x])) { s with heap := h2, toks := tk + 1 } :=
      I.turnedNew (ch := [e, it]) (fun b ob hb q => (sb.2 b (fun z => hb (by simp [z]))).trans (hk b ob (fun z => hb (by simp [z])) (fun z => hb (by simp [z])) q)) hf (Nat.le_refl _) new
    refine ⟨.ref s.heap.objs.size, _, I1, rfl, ⟨_, x, rfl, I.hok.fresh (Nat.le_refl _), rfl, fun ys hy => by rw [I.tuple_inj hy hq]; exact hx⟩, ⟨⟨x', ?_⟩, hst'.1.at fun o q => (sb.2 it (Ne.symm hne)).trans q, hne, hna⟩, fun b hb => ?_⟩
    · rw [show ((i + 1 : Nat) : Int) = (i : Nat) + 1 by omega]
      exact he2
    · have hb' : b < s.heap.objs.size := by
        rcases (show b = e ∨ b = it by simpa using hb) with z | z
        · rw [z]; exact hel
        · rw [z]; exact hil
      rw [upd_ne (Nat.ne_of_lt hb')]
      exact (hf b hb).1
  done := by
    intro X hP hw hK hc i pins s σ H E I hf st hg
    subst hP hw hK
    obtain ⟨⟨old, he⟩, hit, hne, hna⟩ := st
    obtain ⟨xs, hq, hx⟩ := hg
    obtain ⟨its, rv, p, hz⟩ := I.tuple hq
    have p' : s.heap.IsTuple a its.toArray := p
    obtain ⟨f0, f1, f2, f3, f4, f5⟩ := hf it (by simp)
    have hl := rv.length
    have D : Draws X.prog X.w X.A.in1 it [it, a] i (fun _ _ => True) (fun j h => (h.IsTupleIter it a j ∧ h.IsTuple a its.toArray) ∧ j = i) :=
      { live := fun _ _ st => let ⟨o, ho, _⟩ := st.1.1; ⟨o, ho⟩
        frame := fun _ _ _ st hk => ⟨⟨st.1.1.at fun o e => hk it (by simp) o e, st.1.2.at fun o e => hk a (by simp) o e⟩, st.2⟩
        item := fun j _ _ _ hj st _ => absurd st.2 (by omega)
        done := fun s Q E st hE => wpAny_nextOf_tuple_end (I.ok.hd hc) st.1.1 st.1.2 (by simp; omega) hE }
    exact wpAny_pyNext_enum_endD D he ⟨⟨hit, p'⟩, rfl⟩ fun h' eb => ⟨rfl, I.turned (t' := s.toks) (fun b o hb q => eb b o hb q) f0 f1 f3 f4 f5⟩
  self := fun A i s Q E st h => by
    obtain ⟨⟨_, he⟩, _⟩ := st
    exact wpAny_pyIter_enum he h
def iEnumT (K : PySem.W.Frag) (ta : TA) : TI := fun σ H R => ta σ H fun vs H1 => ∃ a xs, vs = [.ref a] ∧ SqT K H1 a xs ∧ R (Itne K a) H1
theorem pi_enumT {X : Cx} {e : Expr} {ta : TA} {p pos tpos : Pos} {elts : List Expr} {kk : Nat} (hg : Gl X "enumerate") (hm : X.mg "enumerate" = none) (ha : PA X [e] ta) (hs : starEach [e] X.env = [(false, eval e X.env)] := by rfl) :
    PI X (.Tuple elts kk tpos) (.Call (.Name "enumerate" p) [e] [] pos) (iEnumT X.K ta) := by
  refine ⟨fun pins s σ H R I h => ?_⟩
  refine Call_ (ld_blt I hg hm boot_enumerate (PyProof.Rows.callWith_type1 (thn (ha.run pos pins s σ H _ I h) fun us s1 ⟨vs, H1, I1, r1, q1⟩ => ?_) hs rfl))
  obtain ⟨a, xs, ex, hq, q⟩ := q1
  subst ex
  cases r1 with
  | cons r rr =>
    cases rr
    cases r
    obtain ⟨its, rv, p', hz⟩ := I1.tuple hq
    have p2 : s1.heap.IsTuple a its.toArray := p'
    refine enumT_begins (begins_tuple a its.toArray) p2 fun h' he hit hsz hk => wpAny_pyIter_enum he ?_
    have I2 : Inv X pins σ H1 { s1 with heap := h' } := I1.kept (t' := s1.toks) hk
    have hal : a < s1.heap.objs.size := by
      obtain ⟨o, m, _⟩ := p2
      exact Heap.lt_size m
    refine ⟨s1.heap.objs.size + 1, [s1.heap.objs.size + 1, s1.heap.objs.size], _, _, H1, rfl, I2, turn_enumT a (s1.heap.objs.size + 1) s1.heap.objs.size, ⟨⟨.none, by simpa using he⟩, ⟨_, hit, rfl, rfl⟩, Nat.succ_ne_self _, Nat.ne_of_lt hal⟩, fun b hb => ?_, q⟩
    have hle : s1.heap.objs.size ≤ b := by
      rcases (show b = s1.heap.objs.size + 1 ∨ b = s1.heap.objs.size by simpa using hb) with z | z
      · rw [z]; exact Nat.le_add_right _ _
      · rw [z]; exact Nat.le_refl _
    exact I1.fpOk hle (I1.hok.fresh hle)
end Far

namespace Far
open PySem PySem.Spec PyProof.Rows L2
open C8 (pss_cut tCut)
open SX (S)
structure TxtQ (mg : Str → Option Value) : Prop where
  len : mg "len" = none
  range : mg "range" = none
  tuple : mg "tuple" = none
  enumerate : mg "enumerate" = none
theorem szM {n : Nat} (h : n ≤ 10000000) : n < sizeLine := Nat.lt_of_le_of_lt h (by decide)
theorem for_enumT {K : PySem.W.Frag} {a : Addr} {xs : List V} {g : TG} {tb : TS} {D : Ends} {σ : L2.St} {H : Hp} (Pv : Nat → L2.St → Hp → Prop) (h0 : Pv 0 σ H) (hl : ∀ i σ H, Pv i σ H → SqT K H a xs)
    (hs : ∀ i x σ H T, xs[i]? = some x → Pv i σ H → H T = none → g (.ref T) σ (upd H T (.tup [.int (i : Nat), x])) fun σ2 H2 => tb { D with nx := Pv (i + 1), ct := Pv (i + 1), bk := D.nx } σ2 H2) (hd : ∀ σ H, Pv xs.length σ H → D.nx σ H) :
    ∃ W : Nat → Nat → L2.St → Hp → Prop, (∃ m, W 0 m σ H) ∧ ∀ i m σ H, W i m σ H →
      ((Itne K a).stop i H ∧ D.nx σ H) ∨ ((Itne K a).go i H ∧ ∃ N : L2.St → Hp → Prop, (∀ σ' H', N σ' H' → ∃ m', m' < m ∧ W (i + 1) m' σ' H') ∧ ∀ x H', (Itne K a).yld i H x H' → g x σ H' fun σ2 H2 => tb { D with nx := N, ct := N, bk := D.nx } σ2 H2) := by
  refine ⟨fun i m σ H => m = xs.length - i ∧ i ≤ xs.length ∧ Pv i σ H, ⟨xs.length, by simp, Nat.zero_le _, h0⟩, fun i m σ H ⟨em, hi, p⟩ => ?_⟩
  have q := hl i σ H p
  by_cases lt : i < xs.length
  · refine .inr ⟨⟨xs, xs[i], q, by simp [lt]⟩, Pv (i + 1), fun σ' H' p' => ⟨xs.length - (i + 1), by omega, rfl, lt, p'⟩, fun v H' ⟨T, x, ev, nT, eH, hx⟩ => ?_⟩
    rw [ev, eH]
    exact hs i x σ H T (hx xs q) p nT
  · have e : i = xs.length := by omega
    rw [e] at p
    exact .inl ⟨⟨xs, q, by omega⟩, hd σ H p⟩
abbrev s_pairs_in_order : Stmt := topS 14
abbrev N_pairs_in_order : List Str := ["tree", "places", "told", "number", "one", "lengths", "behind"]
theorem sc_pairs_in_order : FnScope N_pairs_in_order ["tree"] (defScope s_pairs_in_order) := ⟨rfl, rfl, rfl, by decide +kernel, rfl, by decide +kernel, by decide +kernel⟩
section
variable {P : Program} {w : World} {K : PySem.W.Frag} {mg : Str → Option Value} {base : Heap}
/-- what pairs_in_order tells -/
def spPio : Sp := fun vs H Q _ => ∃ (v : V) (pl : List Nm) (ts : List Tie), vs = [v] ∧ Dt H v (treeD pl ts) ∧ Fine pl ts ∧ ∀ (H' : Hp) (D : Addr) (ws : List V), Same H H' → H D = none → H' D = some (.lst ws) → DtAll H' ws ((pairsOf pl ts).map triD) → Q (.ref D) H'
theorem ok_pio {f : Addr} {fd : FuncData} (F : Fun K "pairs_in_order" "pairs_in_order" s_pairs_in_order f fd) (T : TxtQ mg) (Clengths_from : Cal P w K mg base 3 "lengths_from" spLens) : FnOk P w K mg base CX0 4 f fd ["tree"] spPio := by
  refine F.ok sc_pairs_in_order (fun vs H Q E h => ?_) (fun cdv A outer s H vs Q E hr h => ?_)
  · obtain ⟨v, pl, ts, rfl, _⟩ := h
    rfl
  · obtain ⟨v, pl, ts, rfl, hd, fine, q⟩ := h
    obtain ⟨t, a, b, vs, rfl, ht, ha, hb, hA⟩ := dt_tree hd
    refine ⟨_, (pss_cons (ps_set (i := 1) sc_pairs_in_order.nd rfl (.inl rfl) (pe_ix ix_tup (pv 0) pe_int (fun _ _ => rfl)))
      (pss_cons (ps_set (i := 2) sc_pairs_in_order.nd rfl (.inl rfl) (pe_lst pa_nil))
      (pss_cut (ps_for PassesOwn.never rfl (pi_enumT (by rfl) T.enumerate (pa_cons (pv 1) pa_nil)) (pg_tup rfl (pgs_cons (pg_name (i := 3) sc_pairs_in_order.nd rfl (.inl rfl)) (pgs_cons (pg_name (i := 4) sc_pairs_in_order.nd rfl (.inl rfl)) pgs_nil)))
        (pss_cons (ps_set (i := 5) sc_pairs_in_order.nd rfl (.inl rfl) (pe_c Clengths_from hr (by decide) rfl (pa_cons (pv 0) (pa_cons (pv 4) pa_nil))))
        (pss_one (ps_for PassesOwn.never rfl (pi_range2 (by rfl) T.range (pa_cons (pe_op op_add (pv 3) pe_int) (pa_cons (pe_callB call_len_seq (by rfl) T.len bt_len (pa_cons (pv 1) pa_nil)) pa_nil))) (pg_name (i := 6) sc_pairs_in_order.nd rfl (.inl rfl))
          (pss_one (ps_expr (pe_bm PySem.F.plainAttrs_list PySem.F.slot_list_append PySem.F.type_list_append mt_append (pv 2) (pa_cons (pe_tup (pa_cons (pe_ix ix_tup (pv 5) (pv 6) (fun _ _ => rfl)) (pa_cons (pv 4) (pa_cons (pe_ix ix_tup (pv 1) (pv 6) (fun _ _ => rfl)) pa_nil)))) pa_nil))))))))
      (pss_one (ps_ret (pv 2)))))), ?_⟩
    have p1000 := fine.len
    have sqn : ((pl.map S).map V.str).length = pl.length := by rw [List.length_map, List.length_map]
    refine ⟨_, rfl, t, _, 0, .ref a, rfl, rfl, SqT.of ht, atI_nat (j := 0) rfl, ?_⟩
    refine ⟨Nat.zero_le _, fun D nD => ?_⟩
    refine ⟨fun σ' H' => ∃ (x3 x4 x5 x6 : Option V) (ws : List V), σ' = [some (.ref t), some (.ref a), some (.ref D), x3, x4, x5, x6] ∧ Same H H' ∧ H' D = some (.lst ws) ∧ DtAll H' ws ((pairsOf pl ts).map triD), ?_, fun σ' H' hM => ?_⟩
    · have S2 := same_new (o := .lst []) (Same.refl H) nD
      refine ⟨_, rfl, a, _, rfl, (ha.same S2).sq, ?_⟩
      refine for_enumT (K := K) (a := a) (xs := (pl.map S).map V.str) (fun i σ' H' => ∃ (x3 x4 x5 x6 : Option V) (ws : List V), σ' = [some (.ref t), some (.ref a), some (.ref D), x3, x4, x5, x6] ∧ Same H H' ∧ H' D = some (.lst ws) ∧ DtAll H' ws ((prs pl ts i).map triD)) ⟨none, none, none, none, [], rfl, S2, upd_same, .nil⟩ (fun i σ' H' hP => ?_) (fun i v σ' H' u hi hP nu => ?_) (fun σ' H' hP => ?_)
      · obtain ⟨_, _, _, _, ws, rfl, SM, _⟩ := hP
        exact (ha.same SM).sq
      · obtain ⟨x3, x4, x5, x6, ws, rfl, SM, hD, hW⟩ := hP
        have gx : ∃ x, pl[i]? = some x ∧ v = .str (S x) := by
          rw [List.getElem?_map, List.getElem?_map] at hi
          cases el : pl[i]? with
          | none => rw [el] at hi; cases hi
          | some x => rw [el] at hi; exact ⟨x, rfl, (Option.some.inj hi).symm⟩
        obtain ⟨x, gx, rfl⟩ := gx
        have ip : i < pl.length := (List.getElem?_eq_some_iff.mp gx).1
        have hx : x ∈ pl := List.mem_of_getElem? gx
        have uD : u ≠ D := (ne_of_none hD nu).symm
        have S3 := same_new (o := .tup [.int (i : Nat), .str (S x)]) SM nu
        have tk3 : TK H' (upd H' u (.tup [.int (i : Nat), .str (S x)])) := TK.new nu
        have hD3 : (upd H' u (.tup [.int (i : Nat), .str (S x)])) D = some (.lst ws) := by rw [upd_ne uD.symm]; exact hD
        have hW3 := DtAll.keep tk3 hW
        have hu3 : (upd H' u (.tup [.int (i : Nat), .str (S x)])) u = some (.tup [.int (i : Nat), .str (S x)]) := upd_same
        clear hD hW tk3 nu SM
        generalize upd H' u (.tup [.int (i : Nat), .str (S x)]) = H3 at S3 hD3 hW3 hu3
        refine ⟨u, _, rfl, SqT.of hu3, rfl, _, _, rfl, _, _, rfl, rfl, ?_⟩
        refine ⟨_, rfl, _, rfl, .ref t, pl, ts, x, rfl, Dt.keep (TK.of S3) hd, fine, hx, fun H4 L S4 nL hL => ?_⟩
        have SM := S3.trans S4
        have hD := S4 _ _ hD3
        have hW := DtAll.keep (TK.of S4) hW3
        refine ⟨_, rfl, _, _, rfl, rfl, _, rfl, a, _, rfl, .inr (ha.same SM).sq, _, _, rfl, ⟨by omega, by omega, by rw [sqn]; omega, by rw [sqn]; omega⟩, ?_⟩
        refine for_range (lo := ((i : Nat) : Int) + 1) (n := ((((pl.map S).map V.str).length : Int) - (((i : Nat) : Int) + 1)).toNat) (fun j σ' H' => ∃ (x6 : Option V) (ws : List V), σ' = [some (.ref t), some (.ref a), some (.ref D), some (.int ((i : Nat) : Int)), some (.str (S x)), some (.ref L), x6] ∧ Same H H' ∧ H' L = some (.tup (pl.map fun z => .int (dist ts x z))) ∧ H' D = some (.lst ws) ∧ DtAll H' ws ((prs pl ts i ++ (rowP pl ts i).take j).map triD)) ⟨x6, ws, rfl, SM, hL, hD, by rw [List.take_zero, List.append_nil]; exact hW⟩ (fun j σ' H' hj hP => ?_) (fun σ' H' hP => ?_)
        · obtain ⟨x6, ws, rfl, S6, hL, hD, hW⟩ := hP
          rw [sqn] at hj
          have jp : i + 1 + j < pl.length := by omega
          have gy : pl[i + 1 + j]? = some pl[i + 1 + j] := List.getElem?_eq_getElem jp
          generalize pl[i + 1 + j] = y at gy
          have hy : y ∈ pl := List.mem_of_getElem? gy
          have ej : ((i : Nat) : Int) + 1 + (j : Int) = ((i + 1 + j : Nat) : Int) := by omega
          have wl : ws.length = (prs pl ts i ++ (rowP pl ts i).take j).length := by
            have := DtAll.len hW
            rwa [List.length_map] at this
          have b1 := prs_len pl ts i
          have b2 : i * pl.length ≤ 1000 * 1000 := Nat.mul_le_mul (by omega) p1000
          rw [List.length_append, List.length_take, rowP_len] at wl
          have gpy : ((pl.map S).map V.str)[i + 1 + j]? = some (.str (S y)) := by rw [List.getElem?_map, List.getElem?_map, gy]; rfl
          have gd : (pl.map fun z => V.int (dist ts x z))[i + 1 + j]? = some (.int (dist ts x y)) := by rw [List.getElem?_map, gy]; rfl
          refine ⟨_, rfl, .inl ⟨rfl, _, SqL.of hD⟩, _, rfl, _, rfl, L, _, ((i : Nat) : Int) + 1 + (j : Int), _, rfl, rfl, SqT.of hL, by rw [ej]; exact atI_nat gd, ?_⟩
          refine ⟨_, rfl, _, rfl, _, rfl, a, _, ((i : Nat) : Int) + 1 + (j : Int), _, rfl, rfl, (ha.same S6).sq, by rw [ej]; exact atI_nat gpy, (by show 3 ≤ sizeLine; decide), fun e ne => ?_⟩
          have hD2 : (upd H' e (.tup [.int (dist ts x y), .str (S x), .str (S y)])) D = some (.lst ws) := by
            rw [upd_ne (ne_of_none hD ne)]
            exact hD
          refine ⟨D, ws, _, rfl, rfl, hD2, szM (by omega), ?_⟩
          have tk : TK (upd H' e (.tup [.int (dist ts x y), .str (S x), .str (S y)])) (upd (upd H' e (.tup [.int (dist ts x y), .str (S x), .str (S y)])) D (.lst (ws ++ [.ref e]))) := TK.mut hD2
          have Le : L ≠ e := ne_of_none hL ne
          have LD : L ≠ D := ne_of hL hD (by intro z; cases z)
          refine ⟨_, ws ++ [.ref e], rfl, same_put (same_new S6 ne) nD, by rw [upd_ne LD, upd_ne Le]; exact hL, upd_same, ?_⟩
          rw [List.take_add_one, rowP_at gx gy, ← List.append_assoc, List.map_append]
          exact DtAll.app (DtAll.keep ((TK.new ne).trans tk) hW) (.cons (.tup (tk.tup _ _ upd_same) (.cons (.int _) (.cons (.str _) (.cons (.str _) .nil)))) .nil)
        · obtain ⟨x6, ws, rfl, S6, hL, hD, hW⟩ := hP
          refine ⟨_, _, _, _, ws, rfl, S6, hD, ?_⟩
          rw [sqn, List.take_of_length_le (by rw [rowP_len]; omega)] at hW
          rw [prs_succ]
          exact hW
      · obtain ⟨x3, x4, x5, x6, ws, rfl, SM, hD, hW⟩ := hP
        rw [sqn] at hW
        exact ⟨x3, x4, x5, x6, ws, rfl, SM, hD, hW⟩
    · obtain ⟨x3, x4, x5, x6, ws, rfl, SM, hD, hW⟩ := hM
      exact ⟨_, rfl, q H' D ws SM nD hD hW⟩
end
end Far

namespace Far
open PySem PySem.Spec PyProof.Rows L2
open C8 (pss_cut tCut)
open SX (S)
/-! ### the greatest of triples -/
def best : List Tri → Int
  | [] => 0
  | x :: r => r.foldl (fun m y => max m y.1) x.1
theorem fold_max : ∀ (r : List Tri) (m : Int), (r.foldl (fun m y => max m y.1) m = m ∨ r.foldl (fun m y => max m y.1) m ∈ r.map (·.1)) ∧ m ≤ r.foldl (fun m y => max m y.1) m ∧ ∀ y ∈ r, y.1 ≤ r.foldl (fun m y => max m y.1) m
  | [], m => ⟨.inl rfl, Int.le_refl _, fun y hy => (by cases hy)⟩
  | x :: r, m => by
    obtain ⟨h1, h2, h3⟩ := fold_max r (max m x.1)
    refine ⟨?_, ?_, fun y hy => ?_⟩
    · show r.foldl _ (max m x.1) = m ∨ r.foldl _ (max m x.1) ∈ x.1 :: r.map (·.1)
      rcases h1 with h1 | h1
      · rw [h1]
        by_cases z : m ≤ x.1
        · exact .inr (by rw [Int.max_eq_right z]; exact List.mem_cons_self ..)
        · exact .inl (Int.max_eq_left (by omega))
      · exact .inr (List.mem_cons_of_mem _ h1)
    · show m ≤ r.foldl _ (max m x.1)
      exact Int.le_trans (Int.le_max_left _ _) h2
    · show y.1 ≤ r.foldl _ (max m x.1)
      rcases List.mem_cons.mp hy with z | z
      · rw [z]
        exact Int.le_trans (Int.le_max_right _ _) h2
      · exact h3 y z
theorem best_is {ps : List Tri} {m : Int} (h1 : m ∈ ps.map (·.1)) (h2 : ∀ y ∈ ps.map (·.1), y ≤ m) : best ps = m := by
  cases ps with
  | nil => cases h1
  | cons x r =>
    obtain ⟨k1, k2, k3⟩ := fold_max r x.1
    show r.foldl (fun m y => max m y.1) x.1 = m
    have a : r.foldl (fun m y => max m y.1) x.1 ≤ m := by
      rcases k1 with k1 | k1
      · rw [k1]
        exact h2 _ (List.mem_cons_self ..)
      · exact h2 _ (List.mem_cons_of_mem _ k1)
    have b : m ≤ r.foldl (fun m y => max m y.1) x.1 := by
      rcases List.mem_cons.mp h1 with z | z
      · rw [z]
        exact k2
      · obtain ⟨y, hy, e⟩ := List.mem_map.mp z
        rw [← e]
        exact k3 y hy
    omega
/-- the pairs of the greatest length, in order -/
noncomputable def farOf (pl : List Nm) (ts : List Tie) : List Tri := (pairsOf pl ts).filter fun x => x.1 == best (pairsOf pl ts)
/-- what farthest tells -/
noncomputable def farD (pl : List Nm) (ts : List Tie) : PyData := match farOf pl ts with
  | [] => .tuple [.int 0, .str (S (pl.headD [])), .str (S (pl.headD []))]
  | x :: _ => triD x
/-- what all_farthest tells -/
noncomputable def allD (pl : List Nm) (ts : List Tie) : PyData := .tuple ((farOf pl ts).map fun x => .tuple [.str (S x.2.1), .str (S x.2.2)])
theorem farOf_none {pl : List Nm} {ts : List Tie} (h : pairsOf pl ts = []) : farOf pl ts = [] := by
  unfold farOf
  rw [h]
  rfl
theorem mem_prs {pl : List Nm} {ts : List Tie} {x : Tri} : ∀ {n : Nat}, n ≤ pl.length → x ∈ prs pl ts n → x.2.1 ∈ pl ∧ x.2.2 ∈ pl ∧ x.1 = dist ts x.2.1 x.2.2
  | 0, _, h => by cases h
  | n + 1, hn, h => by
    rw [prs_succ] at h
    rcases List.mem_append.mp h with h | h
    · exact mem_prs (by omega) h
    · obtain ⟨y, hy, rfl⟩ := List.mem_map.mp h
      refine ⟨?_, List.mem_of_mem_drop hy, rfl⟩
      show pl.getD n [] ∈ pl
      have e : pl.getD n [] = pl[n]'(by omega) := by simp [List.getD, show n < pl.length by omega]
      rw [e]
      exact List.getElem_mem _
theorem mem_pairs {pl : List Nm} {ts : List Tie} {x : Tri} (h : x ∈ pairsOf pl ts) : x.2.1 ∈ pl ∧ x.2.2 ∈ pl ∧ x.1 = dist ts x.2.1 x.2.2 := mem_prs (Nat.le_refl _) h
theorem dt_tri {H : Hp} {v : V} {x : Tri} (h : Dt H v (triD x)) : ∃ t : Addr, v = .ref t ∧ H t = some (.tup [.int x.1, .str (S x.2.1), .str (S x.2.2)]) := by
  obtain ⟨t, xs, rfl, ht, hs⟩ := dt_tup h fun _ => ⟨.int x.1, by simp, fun l z => nomatch z⟩
  cases hs with
  | cons h1 hr =>
    cases hr with
    | cons h2 hr =>
      cases hr with
      | cons h3 hr =>
        cases hr
        cases h1
        cases h2
        cases h3
        exact ⟨t, rfl, ht⟩
theorem lay_tris : ∀ {xs : List Tri}, (∀ x ∈ xs, NameOk x.2.1 ∧ NameOk x.2.2) → PyData.canLayAll0 (xs.map triD) = true
  | [], _ => rfl
  | x :: r, h => by
    obtain ⟨h1, h2⟩ := h x (List.mem_cons_self ..)
    have ih := lay_tris fun y hy => h y (List.mem_cons_of_mem _ hy)
    show (PyData.canLay0 (triD x) && PyData.canLayAll0 (r.map triD)) = true
    rw [ih, Bool.and_true]
    show (true && (PyData.strOk (S x.2.1) && (PyData.strOk (S x.2.2) && true))) = true
    rw [strOk_S h1, strOk_S h2]
    rfl
theorem dep_tris : ∀ xs : List Tri, PyData.depthAll (xs.map triD) ≤ 1
  | [] => Nat.zero_le _
  | x :: r => by
    show max (PyData.depth (triD x)) (PyData.depthAll (r.map triD)) ≤ 1
    have ih := dep_tris r
    have e : PyData.depth (triD x) = 1 := rfl
    rw [e]
    omega
theorem shaped_tris {xs : List Tri} (h : ∀ x ∈ xs, NameOk x.2.1 ∧ NameOk x.2.2) : SeqAt.shaped (.list (xs.map triD)) = true := by
  show (PyData.canLayAll0 (xs.map triD) && decide (PyData.depthAll (xs.map triD) + 1 ≤ 64)) = true
  have := dep_tris xs
  rw [lay_tris h, decide_eq_true (by omega)]
  rfl
end Far

namespace Far
open PySem PySem.Spec PyProof.Rows L2
open C8 (pss_cut tCut)
open SX (S)
/-! ### the first of the greatest, by going along -/
def topT : Tri → List Tri → Tri := List.foldl fun m y => if y.1 > m.1 then y else m
theorem topT_snoc (m : Tri) (ps : List Tri) (y : Tri) : topT m (ps ++ [y]) = if y.1 > (topT m ps).1 then y else topT m ps := by
  unfold topT
  rw [List.foldl_append]
  rfl
theorem topT_is : ∀ (ps : List Tri) (m : Tri), (topT m ps = m ∧ ∀ y ∈ ps, y.1 ≤ m.1) ∨ (m.1 < (topT m ps).1 ∧ (∃ r, ps.filter (fun x => x.1 == (topT m ps).1) = topT m ps :: r) ∧ ∀ y ∈ ps, y.1 ≤ (topT m ps).1)
  | [], m => .inl ⟨rfl, fun y hy => (by cases hy)⟩
  | y :: t, m => by
    by_cases c : y.1 > m.1
    · have e : topT m (y :: t) = topT y t := by
        show topT (if y.1 > m.1 then y else m) t = _
        rw [if_pos c]
      rw [e]
      rcases topT_is t y with ⟨h1, h2⟩ | ⟨h1, ⟨r, h2⟩, h3⟩
      · refine .inr ⟨by rw [h1]; exact c, ⟨t.filter fun x => x.1 == y.1, ?_⟩, fun z hz => ?_⟩
        · rw [h1, List.filter_cons, if_pos (by simp)]
        · rw [h1]
          rcases List.mem_cons.mp hz with q | q
          · rw [q]
            exact Int.le_refl _
          · exact h2 z q
      · refine .inr ⟨by omega, ⟨r, ?_⟩, fun z hz => ?_⟩
        · rw [List.filter_cons, if_neg (by simp; omega)]
          exact h2
        · rcases List.mem_cons.mp hz with q | q
          · rw [q]
            omega
          · exact h3 z q
    · have e : topT m (y :: t) = topT m t := by
        show topT (if y.1 > m.1 then y else m) t = _
        rw [if_neg c]
      rw [e]
      rcases topT_is t m with ⟨h1, h2⟩ | ⟨h1, ⟨r, h2⟩, h3⟩
      · refine .inl ⟨h1, fun z hz => ?_⟩
        rcases List.mem_cons.mp hz with q | q
        · rw [q]
          omega
        · exact h2 z q
      · refine .inr ⟨h1, ⟨r, ?_⟩, fun z hz => ?_⟩
        · rw [List.filter_cons, if_neg (by simp; omega)]
          exact h2
        · rcases List.mem_cons.mp hz with q | q
          · rw [q]
            omega
          · exact h3 z q
theorem IsTree.pos {pl : List Nm} {ts : List Tie} (F : IsTree pl ts) {u x : Nm} (hu : u ∈ pl) (hx : x ∈ pl) (n : u ≠ x) : 1 ≤ dist ts u x := by
  have w := F.the_way hu hx
  have k := Way.nonneg (fun e he => (F.ties e he).2.2.1) w
  obtain ⟨q, e1⟩ := w.first
  obtain ⟨q', e2⟩ := w.last
  have l2 : 2 ≤ (path ts u x).length := by
    cases q with
    | nil =>
      rw [e1] at e2
      have := congrArg List.getLast? e2
      rw [List.getLast?_append] at this
      simp at this
      exact absurd this n
    | cons a r =>
      rw [e1]
      simp
  omega
theorem prs_ne {pl : List Nm} {ts : List Tie} (nd : pl.Nodup) {x : Tri} : ∀ {n : Nat}, n ≤ pl.length → x ∈ prs pl ts n → x.2.1 ≠ x.2.2
  | 0, _, h => by cases h
  | n + 1, hn, h => by
    rw [prs_succ] at h
    rcases List.mem_append.mp h with h | h
    · exact prs_ne nd (by omega) h
    · obtain ⟨y, hy, rfl⟩ := List.mem_map.mp h
      show pl.getD n [] ≠ y
      have e : pl.getD n [] = pl[n]'(by omega) := by simp [List.getD, show n < pl.length by omega]
      rw [e]
      intro z
      obtain ⟨j, hj, ej⟩ := List.mem_iff_getElem.mp hy
      rw [List.getElem_drop, ← z] at ej
      rw [List.length_drop] at hj
      have := (List.getElem_inj nd).mp ej
      omega
theorem pairs_pos {pl : List Nm} {ts : List Tie} (F : Fine pl ts) {x : Tri} (h : x ∈ pairsOf pl ts) : 1 ≤ x.1 := by
  obtain ⟨h1, h2, h3⟩ := mem_pairs h
  rw [h3]
  exact F.tree.pos h1 h2 (prs_ne F.tree.nodup (Nat.le_refl _) h)
theorem farD_top {pl : List Nm} {ts : List Tie} (F : Fine pl ts) : farD pl ts = triD (topT (0, pl.headD [], pl.headD []) (pairsOf pl ts)) ∧ (pairsOf pl ts ≠ [] → (topT (0, pl.headD [], pl.headD []) (pairsOf pl ts)).1 = best (pairsOf pl ts)) := by
  have hp : ∀ x ∈ pairsOf pl ts, 1 ≤ x.1 := fun x hx => pairs_pos F hx
  unfold farD farOf
  generalize pairsOf pl ts = ps at hp
  rcases topT_is ps (0, pl.headD [], pl.headD []) with ⟨h1, h2⟩ | ⟨h1, ⟨r, h2⟩, h3⟩
  · cases ps with
    | nil => exact ⟨by rw [h1]; rfl, fun z => absurd rfl z⟩
    | cons x r =>
      have a := hp x (List.mem_cons_self ..)
      have b := h2 x (List.mem_cons_self ..)
      exact absurd b (by show ¬ x.1 ≤ 0; omega)
  · generalize topT (0, pl.headD [], pl.headD []) ps = m at *
    have hb : best ps = m.1 := by
      refine best_is (List.mem_map.mpr ⟨m, ?_, rfl⟩) fun y hy => ?_
      · have : m ∈ ps.filter fun x => x.1 == m.1 := by
          rw [h2]
          exact List.mem_cons_self ..
        exact (List.mem_filter.mp this).1
      · obtain ⟨z, hz, rfl⟩ := List.mem_map.mp hy
        exact h3 z hz
    rw [hb, h2]
    exact ⟨rfl, fun _ => rfl⟩
abbrev s_farthest : Stmt := topS 12
abbrev N_farthest : List Str := ["tree", "first", "told", "pair"]
theorem sc_farthest : FnScope N_farthest ["tree"] (defScope s_farthest) := ⟨rfl, rfl, rfl, by decide +kernel, rfl, by decide +kernel, by decide +kernel⟩
abbrev s_all_farthest : Stmt := topS 13
abbrev N_all_farthest : List Str := ["tree", "greatest", "pairs", "length", "one", "other"]
theorem sc_all_farthest : FnScope N_all_farthest ["tree"] (defScope s_all_farthest) := ⟨rfl, rfl, rfl, by decide +kernel, rfl, by decide +kernel, by decide +kernel⟩
section
variable {P : Program} {w : World} {K : PySem.W.Frag} {mg : Str → Option Value} {base : Heap}
def spFarthest : Sp := fun vs H Q _ => ∃ (v : V) (pl : List Nm) (ts : List Tie), vs = [v] ∧ Dt H v (treeD pl ts) ∧ Fine pl ts ∧ ∀ (H' : Hp) (r : V), Same H H' → Dt H' r (farD pl ts) → Q r H'
def spAllFarthest : Sp := fun vs H Q _ => ∃ (v : V) (pl : List Nm) (ts : List Tie), vs = [v] ∧ Dt H v (treeD pl ts) ∧ Fine pl ts ∧ ∀ (H' : Hp) (r : V), Same H H' → Dt H' r (allD pl ts) → Q r H'
theorem ok_farthest {f : Addr} {fd : FuncData} (F : Fun K "farthest" "farthest" s_farthest f fd) (Cpairs_in_order : Cal P w K mg base 4 "pairs_in_order" spPio) : FnOk P w K mg base CX0 5 f fd ["tree"] spFarthest := by
  refine F.ok sc_farthest (fun vs H Q E h => ?_) (fun cdv A outer s H vs Q E hr h => ?_)
  · obtain ⟨v, pl, ts, rfl, _⟩ := h
    rfl
  · obtain ⟨v, pl, ts, rfl, hd, fine, q⟩ := h
    obtain ⟨t, a, b, vs, rfl, ht, ha, hb, hA⟩ := dt_tree hd
    refine ⟨_, (pss_cons (ps_set (i := 1) sc_farthest.nd rfl (.inl rfl) (pe_ix ix_tup (pe_ix ix_tup (pv 0) pe_int (fun _ _ => rfl)) pe_int (fun _ _ => rfl)))
      (pss_cons (ps_set (i := 2) sc_farthest.nd rfl (.inl rfl) (pe_tup (pa_cons pe_int (pa_cons (pv 1) (pa_cons (pv 1) pa_nil)))))
      (pss_cut (ps_for PassesOwn.never rfl (pi_list (pe_c Cpairs_in_order hr (by decide) rfl (pa_cons (pv 0) pa_nil))) (pg_name (i := 3) sc_farthest.nd rfl (.inl rfl))
        (pss_one (ps_if (pt_cmpR op_gt (pe_ix ix_tup (pv 3) pe_int (fun _ _ => rfl)) (pe_ix ix_tup (pv 2) pe_int (fun _ _ => rfl)) (nomark _))
          (pss_one (ps_set (i := 2) sc_farthest.nd rfl (.inl rfl) (pv 3)))
          pss_nil)))
      (pss_one (ps_ret (pv 2)))))), ?_⟩
    obtain ⟨p0, pr, epl⟩ : ∃ p0 pr, pl = p0 :: pr := by
      cases hp : pl with
      | nil => exact absurd hp fine.ne
      | cons a r => exact ⟨a, r, rfl⟩
    have g0 : ((pl.map S).map V.str)[0]? = some (.str (S p0)) := by rw [epl]; rfl
    refine ⟨_, rfl, t, _, 0, .ref a, rfl, rfl, SqT.of ht, atI_nat (j := 0) rfl, a, _, 0, _, rfl, rfl, ha.sq, atI_nat (j := 0) g0, ?_⟩
    refine ⟨_, rfl, _, rfl, (by show 3 ≤ sizeLine; decide), fun T0 nT0 => ?_⟩
    have S1 := same_new (o := .tup [.int 0, .str (S p0), .str (S p0)]) (Same.refl H) nT0
    have h0 : (upd H T0 (.tup [.int 0, .str (S p0), .str (S p0)])) T0 = some (.tup [.int 0, .str (S p0), .str (S p0)]) := upd_same
    generalize upd H T0 (.tup [.int 0, .str (S p0), .str (S p0)]) = H1 at S1 h0
    refine ⟨fun σ' H' => ∃ (r : Addr) (x3 : Option V), σ' = [some (.ref t), some (.str (S p0)), some (.ref r), x3] ∧ Same H H' ∧ Dt H' (.ref r) (triD (topT (0, pl.headD [], pl.headD []) (pairsOf pl ts))), ?_, fun σ' H' hM => ?_⟩
    · refine ⟨_, rfl, .ref t, pl, ts, rfl, Dt.keep (TK.of S1) hd, fine, fun H2 D ws S2 nD hD hW => ?_⟩
      have wl := DtAll.len hW
      rw [List.length_map] at wl
      refine ⟨D, rfl, ⟨_, SqL.of hD⟩, for_list (K := K) (a := D) (xs := ws) (fun i σ' H' => H' = H2 ∧ ∃ (r : Addr) (x3 : Option V), σ' = [some (.ref t), some (.str (S p0)), some (.ref r), x3] ∧ H2 r = some (.tup [.int (topT (0, pl.headD [], pl.headD []) ((pairsOf pl ts).take i)).1, .str (S (topT (0, pl.headD [], pl.headD []) ((pairsOf pl ts).take i)).2.1), .str (S (topT (0, pl.headD [], pl.headD []) ((pairsOf pl ts).take i)).2.2)])) ⟨rfl, T0, none, rfl, ?_⟩ (fun i σ' H' _ hP => by rw [hP.1]; exact SqL.of hD) (fun i v σ' H' hi hP => ?_) (fun σ' H' hP => ?_)⟩
      · rw [List.take_zero]
        show H2 T0 = some (.tup [.int 0, .str (S (pl.headD [])), .str (S (pl.headD []))])
        rw [epl]
        exact S2 _ _ h0
      · obtain ⟨rfl, r, x3, rfl, hr2⟩ := hP
        obtain ⟨d, hd, hx⟩ := DtAll.get hW hi
        rw [List.getElem?_map] at hd
        cases ee : (pairsOf pl ts)[i]? with
        | none => rw [ee] at hd; cases hd
        | some y =>
          rw [ee] at hd
          have ed : d = triD y := (Option.some.inj hd).symm
          subst ed
          obtain ⟨u, rfl, hu⟩ := dt_tri hx
          have et : (pairsOf pl ts).take (i + 1) = (pairsOf pl ts).take i ++ [y] := by
            rw [List.take_add_one, ee]
            rfl
          rw [et, topT_snoc]
          refine ⟨_, rfl, u, _, 0, _, rfl, rfl, SqT.of hu, atI_nat (j := 0) rfl, _, rfl, r, _, 0, _, rfl, rfl, SqT.of hr2, atI_nat (j := 0) rfl, _, _, rfl, rfl, _, rfl, ?_⟩
          refine ite2 (fun z => ?_) (fun z => ?_)
          · have z : y.1 > (topT (0, pl.headD [], pl.headD []) ((pairsOf pl ts).take i)).1 := of_decide_eq_true z
            rw [if_pos z]
            exact ⟨_, rfl, rfl, u, _, rfl, hu⟩
          · have z : ¬ y.1 > (topT (0, pl.headD [], pl.headD []) ((pairsOf pl ts).take i)).1 := fun k => z (decide_eq_true k)
            rw [if_neg z]
            exact ⟨rfl, r, _, rfl, hr2⟩
      · obtain ⟨rfl, r, x3, rfl, hr2⟩ := hP
        rw [wl, List.take_length] at hr2
        exact ⟨r, x3, rfl, S1.trans S2, .tup hr2 (.cons (.int _) (.cons (.str _) (.cons (.str _) .nil)))⟩
    · obtain ⟨r, x3, rfl, SM, hr2⟩ := hM
      refine ⟨_, rfl, q H' _ SM ?_⟩
      rw [(farD_top fine).1]
      exact hr2
theorem ok_all_farthest {f : Addr} {fd : FuncData} (F : Fun K "all_farthest" "all_farthest" s_all_farthest f fd) (T : TxtQ mg) (Cpairs_in_order : Cal P w K mg base 4 "pairs_in_order" spPio) (Cfarthest : Cal P w K mg base 5 "farthest" spFarthest) : FnOk P w K mg base CX0 6 f fd ["tree"] spAllFarthest := by
  refine F.ok sc_all_farthest (fun vs H Q E h => ?_) (fun cdv A outer s H vs Q E hr h => ?_)
  · obtain ⟨v, pl, ts, rfl, _⟩ := h
    rfl
  · obtain ⟨v, pl, ts, rfl, hd, fine, q⟩ := h
    refine ⟨_, (pss_cons (ps_set (i := 1) sc_all_farthest.nd rfl (.inr rfl) (pe_ix ix_tup (pe_c Cfarthest hr (by decide) rfl (pa_cons (pv 0) pa_nil)) pe_int (fun _ _ => rfl)))
      (pss_cons (ps_set (i := 2) sc_all_farthest.nd rfl (.inl rfl) (pe_c Cpairs_in_order hr (by decide) rfl (pa_cons (pv 0) pa_nil)))
      (pss_one (ps_ret (pe_tupleOf (by rfl) T.tuple (pe_lc (own := [("length", 3), ("one", 4), ("other", 5)]) (g := gTup K 3 (gCons (gName 3) (gCons (gName 4) (gCons (gName 5) gNil))))  rfl sc_all_farthest.nd (pi_list (pv 2)) (blkOk_by (N := N_all_farthest) (sc := defScope s_all_farthest) (by decide +kernel)) (fun _ _ _ _ _ => (pg_tup rfl (pgs_cons (pg_name (i := 3) sc_all_farthest.nd rfl (.inl rfl)) (pgs_cons (pg_name (i := 4) sc_all_farthest.nd rfl (.inl rfl)) (pgs_cons (pg_name (i := 5) sc_all_farthest.nd rfl (.inl rfl)) pgs_nil))))) (fun _ _ _ _ _ => pts_one (pt_cmpR op_eq (pv 3) (pv 1) (nomark _))) (fun _ _ _ _ _ => (pe_tup (pa_cons (pv 4) (pa_cons (pv 5) pa_nil)))))))))), ?_⟩
    refine ⟨_, rfl, v, pl, ts, rfl, hd, fine, fun H1 r S1 hr1 => ?_⟩
    obtain ⟨e1, e2⟩ := farD_top fine
    rw [e1] at hr1
    generalize topT (0, pl.headD [], pl.headD []) (pairsOf pl ts) = top at e2 hr1
    obtain ⟨u, rfl, hu⟩ := dt_tri hr1
    refine ⟨u, _, 0, _, rfl, rfl, SqT.of hu, atI_nat (j := 0) rfl, ?_⟩
    refine ⟨_, rfl, v, pl, ts, rfl, Dt.keep (TK.of S1) hd, fine, fun H2 D ws S2 nD hD hW => ?_⟩
    have wl := DtAll.len hW
    rw [List.length_map] at wl
    have p1000 := fine.len
    have pl1 : (pairsOf pl ts).length ≤ 1000 * 1000 := Nat.le_trans (prs_len pl ts _) (Nat.mul_le_mul p1000 p1000)
    have hf : (pairsOf pl ts).filter (fun x => x.1 == top.1) = farOf pl ts := by
      unfold farOf
      cases hp : pairsOf pl ts with
      | nil => rfl
      | cons a r => rw [← hp, e2 (by rw [hp]; intro z; cases z)]
    refine ⟨_, rfl, D, rfl, ⟨_, SqL.of hD⟩, fun C nC => ?_⟩
    have DC : D ≠ C := ne_of_none hD nC
    refine lc_list (K := K) (a := D) (xs := ws) (fun i H' => ∃ us, Same H2 H' ∧ H' C = some (.lst us) ∧ DtAll H' us ((((pairsOf pl ts).take i).filter fun x => x.1 == top.1).map fun x => .tuple [.str (S x.2.1), .str (S x.2.2)])) ⟨[], same_new (Same.refl H2) nC, upd_same, .nil⟩ (fun i H' _ hP => ?_) (fun i v H' hi hP => ?_) (fun H' hP => ?_)
    · obtain ⟨us, sm, _⟩ := hP
      exact SqL.of (sm _ _ hD)
    · obtain ⟨us, sm, hC, hU⟩ := hP
      have ul := DtAll.len hU
      rw [List.length_map] at ul
      have fi : (((pairsOf pl ts).take i).filter fun x => x.1 == top.1).length ≤ 1000 * 1000 := by
        refine Nat.le_trans (List.length_filter_le _ _) ?_
        rw [List.length_take]
        omega
      obtain ⟨d, hd, hx⟩ := DtAll.get hW hi
      rw [List.getElem?_map] at hd
      cases ee : (pairsOf pl ts)[i]? with
      | none => rw [ee] at hd; cases hd
      | some x =>
        rw [ee] at hd
        have ed : d = triD x := (Option.some.inj hd).symm
        subst ed
        obtain ⟨u2, rfl, hu2⟩ := dt_tri hx
        have et : (pairsOf pl ts).take (i + 1) = (pairsOf pl ts).take i ++ [x] := by
          rw [List.take_add_one, ee]
          rfl
        rw [et, List.filter_append, List.map_append]
        refine ⟨u2, _, rfl, SqT.of (sm _ _ hu2), rfl, _, _, rfl, _, _, rfl, _, _, rfl, rfl, rfl, _, rfl, _, rfl, rfl, _, rfl, ?_⟩
        refine ite2 (fun z => ?_) (fun z => ?_)
        · have z : x.1 = top.1 := V.int.inj (of_decide_eq_true z)
          refine ⟨_, rfl, _, rfl, (by show 2 ≤ sizeLine; decide), fun e ne => ?_⟩
          have hC4 : (upd H' e (.tup [.str (S x.2.1), .str (S x.2.2)])) C = some (.lst us) := by
            rw [upd_ne (ne_of_none hC ne)]
            exact hC
          have tk : TK (upd H' e (.tup [.str (S x.2.1), .str (S x.2.2)])) (upd (upd H' e (.tup [.str (S x.2.1), .str (S x.2.2)])) C (.lst (us ++ [.ref e]))) := TK.mut hC4
          refine ⟨us, hC4, szM (by omega), us ++ [.ref e], same_put (same_new sm ne) nC, upd_same, ?_⟩
          rw [List.filter_cons, if_pos (by simp [z])]
          exact DtAll.app (DtAll.keep ((TK.new ne).trans tk) hU) (.cons (.tup (tk.tup _ _ upd_same) (.cons (.str _) (.cons (.str _) .nil))) .nil)
        · have z : x.1 ≠ top.1 := fun y => z (by rw [y]; exact decide_eq_true rfl)
          refine ⟨us, sm, hC, ?_⟩
          rw [List.filter_cons, if_neg (by simp [z]), List.filter_nil, List.map_nil, List.append_nil]
          exact hU
    · obtain ⟨us, sm, hC, hU⟩ := hP
      rw [wl, List.take_length, hf] at hU
      refine .inl ⟨C, us, rfl, SqL.of hC, fun q1 nq1 => ?_⟩
      exact q _ _ (same_new ((S1.trans S2).trans sm) nq1) (.tup upd_same (DtAll.keep (TK.new nq1) hU))
end
end Far


namespace Far
open PySem PySem.Spec PyProof.Rows L2
open C8 (pss_cut tCut)
open SX (S)
/-! ### the greatest and the least of whole numbers -/
def mxI : List Int → Int
  | [] => 0
  | x :: r => max x (mxI r)
def mxG : List Int → Int
  | [] => 0
  | [x] => x
  | x :: y :: r => max x (mxG (y :: r))
def mnG : List Int → Int
  | [] => 0
  | [x] => x
  | x :: y :: r => min x (mnG (y :: r))
theorem mxG_in : ∀ {l : List Int}, l ≠ [] → mxG l ∈ l ∧ ∀ y ∈ l, y ≤ mxG l
  | [], h => absurd rfl h
  | [x], _ => ⟨List.mem_singleton.mpr rfl, fun y hy => by rw [List.mem_singleton.mp hy]; exact Int.le_refl _⟩
  | x :: y :: r, _ => by
    obtain ⟨h1, h2⟩ := mxG_in (l := y :: r) (by intro z; cases z)
    show max x (mxG (y :: r)) ∈ _ ∧ _
    refine ⟨?_, fun z hz => ?_⟩
    · by_cases c : x ≤ mxG (y :: r)
      · rw [Int.max_eq_right c]
        exact List.mem_cons_of_mem _ h1
      · rw [Int.max_eq_left (by omega)]
        exact List.mem_cons_self ..
    · show z ≤ max x (mxG (y :: r))
      rcases List.mem_cons.mp hz with q | q
      · rw [q]
        exact Int.le_max_left _ _
      · exact Int.le_trans (h2 z q) (Int.le_max_right _ _)
theorem mnG_in : ∀ {l : List Int}, l ≠ [] → mnG l ∈ l ∧ ∀ y ∈ l, mnG l ≤ y
  | [], h => absurd rfl h
  | [x], _ => ⟨List.mem_singleton.mpr rfl, fun y hy => by rw [List.mem_singleton.mp hy]; exact Int.le_refl _⟩
  | x :: y :: r, _ => by
    obtain ⟨h1, h2⟩ := mnG_in (l := y :: r) (by intro z; cases z)
    show min x (mnG (y :: r)) ∈ _ ∧ _
    refine ⟨?_, fun z hz => ?_⟩
    · by_cases c : x ≤ mnG (y :: r)
      · rw [Int.min_eq_left c]
        exact List.mem_cons_self ..
      · rw [Int.min_eq_right (by omega)]
        exact List.mem_cons_of_mem _ h1
    · show min x (mnG (y :: r)) ≤ z
      rcases List.mem_cons.mp hz with q | q
      · rw [q]
        exact Int.min_le_left _ _
      · exact Int.le_trans (Int.min_le_right _ _) (h2 z q)
theorem mxG_is {l : List Int} {m : Int} (h1 : m ∈ l) (h2 : ∀ y ∈ l, y ≤ m) : m = mxG l := by
  obtain ⟨k1, k2⟩ := mxG_in (l := l) (by intro z; rw [z] at h1; cases h1)
  exact Int.le_antisymm (k2 m h1) (h2 _ k1)
theorem mnG_is {l : List Int} {m : Int} (h1 : m ∈ l) (h2 : ∀ y ∈ l, m ≤ y) : m = mnG l := by
  obtain ⟨k1, k2⟩ := mnG_in (l := l) (by intro z; rw [z] at h1; cases h1)
  exact Int.le_antisymm (h2 _ k1) (k2 m h1)
/-- how far a place is from its farthest -/
noncomputable def rch (pl : List Nm) (ts : List Tie) (u : Nm) : Int := mxG (pl.map fun x => dist ts u x)
theorem map_int (pl : List Nm) (f : Nm → Int) : (pl.map fun x => V.int (f x)) = (pl.map f).map V.int := by rw [List.map_map]; rfl
def thoseD (pl : List Nm) (f : Nm → Int) (n : Int) : PyData := .tuple ((pl.filter fun x => f x == n).map strD)
theorem dts_S (H : Hp) : ∀ pl : List Nm, DtAll H ((pl.map S).map V.str) (pl.map strD)
  | [] => .nil
  | x :: r => .cons (.str _) (dts_S H r)
theorem dts_I (H : Hp) : ∀ ns : List Int, DtAll H (ns.map V.int) (ns.map PyData.int)
  | [] => .nil
  | x :: r => .cons (.int _) (dts_I H r)
theorem take_snoc_filter {pl : List Nm} {f : Nm → Int} {n : Int} {i : Nat} {x : Nm} (h : pl.take (i + 1) = pl.take i ++ [x]) : (pl.take (i + 1)).filter (fun x => f x == n) = (pl.take i).filter (fun x => f x == n) ++ (if f x = n then [x] else []) := by
  rw [h, List.filter_append]
  by_cases c : f x = n
  · rw [if_pos c, List.filter_cons, if_pos (by simp [c])]
    rfl
  · rw [if_neg c, List.filter_cons, if_neg (by simp [c])]
    rfl
end Far

namespace Far
open PySem PySem.Spec PyProof.Rows L2
open SX (S)
/-! ### along a way the lengths rise -/
theorem Way.rising {pl : List Nm} {ts : List Tie} (F : IsTree pl ts) {u v : Nm} {p : List Nm} {L : Int} (h : Way ts u v p L) : (p.map (dist ts u)).Pairwise (· < ·) ∧ ∀ y ∈ p, dist ts u y ≤ L := by
  induction h with
  | nil =>
    refine ⟨by simp, fun y hy => ?_⟩
    rw [List.mem_singleton.mp hy, (F.dist_self u).1]
    exact Int.le_refl _
  | @snoc v w p L k hw ha hn ih =>
    have hk : 1 ≤ k := ha.elim (fun z => (F.ties _ z).2.2.1) fun z => (F.ties _ z).2.2.1
    have ew : dist ts u w = L + k := (F.is_way (Way.snoc hw ha hn)).2
    refine ⟨?_, fun y hy => ?_⟩
    · rw [List.map_append, List.pairwise_append]
      refine ⟨ih.1, by simp, fun a ha' b hb => ?_⟩
      obtain ⟨y, hy, rfl⟩ := List.mem_map.mp ha'
      have hb : b = dist ts u w := by simpa using hb
      rw [hb, ew]
      have := ih.2 y hy
      omega
    · rcases List.mem_append.mp hy with z | z
      · have := ih.2 y z
        omega
      · rw [List.mem_singleton.mp z, ew]
        exact Int.le_refl _
def cutIx (g : List Int) (W : Int) : Nat := (g.filter fun z => decide (2 * z < W)).length
theorem cutIx_iff {W : Int} : ∀ {g : List Int}, g.Pairwise (· < ·) → ∀ (i : Nat) (h : i < g.length), 2 * g[i] < W ↔ i < cutIx g W
  | [], _, i, h => absurd h (Nat.not_lt_zero _)
  | a :: r, hp, i, h => by
    obtain ⟨h1, h2⟩ := List.pairwise_cons.mp hp
    by_cases c : 2 * a < W
    · have e : cutIx (a :: r) W = cutIx r W + 1 := by
        unfold cutIx
        rw [List.filter_cons, if_pos (by simpa using c)]
        rfl
      rw [e]
      cases i with
      | zero => exact ⟨fun _ => Nat.succ_pos _, fun _ => c⟩
      | succ i =>
        have := cutIx_iff (W := W) h2 i (Nat.lt_of_succ_lt_succ h)
        show 2 * r[i]'(Nat.lt_of_succ_lt_succ h) < W ↔ _
        rw [this]
        omega
    · have hr : ∀ z ∈ r, ¬ 2 * z < W := fun z hz => by
        have := h1 z hz
        omega
      have e : cutIx (a :: r) W = 0 := by
        unfold cutIx
        rw [List.filter_cons, if_neg (by simpa using c), List.filter_eq_nil_iff.mpr (fun z hz => by simpa using hr z hz)]
        rfl
      rw [e]
      cases i with
      | zero => exact ⟨fun z => absurd z c, fun z => absurd z (Nat.lt_irrefl _)⟩
      | succ i => exact ⟨fun z => absurd z (hr _ (List.getElem_mem _)), fun z => absurd z (Nat.not_lt_zero _)⟩
/-! ### halves -/
def halfD (n : Int) : PyData := if n % 2 = 0 then .tuple [.int (n / 2), .int 1] else .tuple [.int n, .int 2]
theorem gcd_two (n : Int) : ((Nat.gcd n.natAbs (2 : Int).natAbs : Nat) : Int) = if n % 2 = 0 then 2 else 1 := by
  show ((Nat.gcd n.natAbs 2 : Nat) : Int) = _
  by_cases c : n % 2 = 0
  · rw [if_pos c, Nat.gcd_eq_right (by omega)]
    rfl
  · rw [if_neg c]
    have h1 : n.natAbs % 2 = 1 := by omega
    have : Nat.gcd n.natAbs 2 = 1 := by
      rw [Nat.gcd_comm, Nat.gcd_rec, h1]
      rfl
    rw [this]
    rfl
/-! ### the middle of the way between two places -/
noncomputable def goneOf (ts : List Tie) (u x : Nm) : List Int := (path ts u x).map (dist ts u)
noncomputable def midK (ts : List Tie) (u x : Nm) : Nat := cutIx (goneOf ts u x) (dist ts u x)
noncomputable def hi (ts : List Tie) (u x : Nm) : Nm := (path ts u x).getD (midK ts u x) []
noncomputable def lo (ts : List Tie) (u x : Nm) : Nm := (path ts u x).getD (midK ts u x - 1) []
/-- the point, and the half -/
noncomputable def pointD (pl : List Nm) (ts : List Tie) (u x : Nm) : PyData :=
  if 2 * dist ts u (hi ts u x) = dist ts u x then .tuple [strD (hi ts u x), strD (hi ts u x), .tuple [.int 0, .int 1]]
  else if pl.idxOf (lo ts u x) < pl.idxOf (hi ts u x) then .tuple [strD (lo ts u x), strD (hi ts u x), halfD (dist ts u x - 2 * dist ts u (lo ts u x))]
  else .tuple [strD (hi ts u x), strD (lo ts u x), halfD (2 * dist ts u (hi ts u x) - dist ts u x)]
structure MidF (pl : List Nm) (ts : List Tie) (u x : Nm) : Prop where
  kl : midK ts u x < (path ts u x).length
  hiE : (path ts u x)[midK ts u x]? = some (hi ts u x)
  hiM : hi ts u x ∈ path ts u x
  ge : dist ts u x ≤ 2 * dist ts u (hi ts u x)
  loE : 2 * dist ts u (hi ts u x) ≠ dist ts u x → 1 ≤ midK ts u x ∧ (path ts u x)[midK ts u x - 1]? = some (lo ts u x) ∧ lo ts u x ∈ path ts u x ∧ 2 * dist ts u (lo ts u x) < dist ts u x
  only : ∀ y ∈ path ts u x, 2 * dist ts u y = dist ts u x → y = hi ts u x
  low : ∀ y ∈ path ts u x, 2 * dist ts u y < dist ts u x → dist ts u y ≤ dist ts u (lo ts u x) ∧ (dist ts u y = dist ts u (lo ts u x) → y = lo ts u x)
  high : ∀ y ∈ path ts u x, dist ts u x < 2 * dist ts u y → dist ts u (hi ts u x) ≤ dist ts u y ∧ (dist ts u y = dist ts u (hi ts u x) → y = hi ts u x)
theorem mid_facts {pl : List Nm} {ts : List Tie} (F : IsTree pl ts) {u x : Nm} (hu : u ∈ pl) (hx : x ∈ pl) : MidF pl ts u x := by
  have w := F.the_way hu hx
  have rise := (w.rising F).1
  have iff := fun i h => cutIx_iff (W := dist ts u x) rise i h
  have gl : ((path ts u x).map (dist ts u)).length = (path ts u x).length := List.length_map _
  have g_at : ∀ (i : Nat) (h : i < (path ts u x).length), ((path ts u x).map (dist ts u))[i]'(by rw [gl]; exact h) = dist ts u ((path ts u x)[i]) := fun i h => List.getElem_map _
  have hk : midK ts u x = cutIx ((path ts u x).map (dist ts u)) (dist ts u x) := rfl
  obtain ⟨q, el⟩ := w.last
  obtain ⟨q', ef⟩ := w.first
  have d0 := (F.dist_self u).1
  have nn := (Way.nonneg (fun e he => (F.ties e he).2.2.1) w).1
  have plen : (path ts u x).length = q.length + 1 := by rw [el]; simp
  have plast : (path ts u x)[q.length]'(by omega) = x := by
    simp [el]
  have pfirst : (path ts u x)[0]'(by omega) = u := by
    simp [ef]
  have kl : midK ts u x < (path ts u x).length := by
    have h := iff q.length (by rw [gl]; omega)
    rw [g_at _ (by omega), plast] at h
    rw [hk]
    have : ¬ q.length < cutIx ((path ts u x).map (dist ts u)) (dist ts u x) := fun z => by
      have := h.mpr z
      omega
    omega
  have inj : ∀ (i j : Nat) (hi : i < (path ts u x).length) (hj : j < (path ts u x).length), i < j → dist ts u ((path ts u x)[i]) < dist ts u ((path ts u x)[j]) := fun i j hi hj lt => by
    have := List.pairwise_iff_getElem.mp rise i j (by rw [gl]; exact hi) (by rw [gl]; exact hj) lt
    rwa [g_at i hi, g_at j hj] at this
  have iff' : ∀ (i : Nat) (h : i < (path ts u x).length), 2 * dist ts u ((path ts u x)[i]) < dist ts u x ↔ i < midK ts u x := fun i h => by
    have := iff i (by rw [gl]; exact h)
    rwa [g_at i h] at this
  have ehi : hi ts u x = (path ts u x)[midK ts u x] := by
    unfold hi
    simp [List.getD, kl]
  have ge : dist ts u x ≤ 2 * dist ts u (hi ts u x) := by
    rw [ehi]
    have := (iff' _ kl).mp
    by_cases c : 2 * dist ts u ((path ts u x)[midK ts u x]) < dist ts u x
    · exact absurd (this c) (Nat.lt_irrefl _)
    · omega
  have elo : lo ts u x = (path ts u x)[midK ts u x - 1]'(by omega) := by
    unfold lo
    simp [List.getD, show midK ts u x - 1 < (path ts u x).length by omega]
  refine ⟨kl, by rw [ehi]; exact List.getElem?_eq_getElem kl, by rw [ehi]; exact List.getElem_mem _, ge, fun ne => ?_, fun y hy e => ?_, fun y hy lt => ?_, fun y hy lt => ?_⟩
  · have k1 : 1 ≤ midK ts u x := by
      by_cases c : 1 ≤ midK ts u x
      · exact c
      · exfalso
        have k0 : midK ts u x = 0 := by omega
        have e0 : hi ts u x = u := by
          rw [ehi]
          simp only [k0]
          exact pfirst
        rw [e0, d0] at ne ge
        omega
    refine ⟨k1, by rw [elo]; exact List.getElem?_eq_getElem _, by rw [elo]; exact List.getElem_mem _, ?_⟩
    rw [elo]
    exact (iff' _ (by omega)).mpr (by omega)
  · obtain ⟨i, hi', rfl⟩ := List.mem_iff_getElem.mp hy
    have ni : ¬ i < midK ts u x := fun z => by
      have := (iff' i hi').mpr z
      omega
    by_cases c : i = midK ts u x
    · subst c
      rw [ehi]
    · have := inj _ _ kl hi' (by omega)
      rw [← ehi] at this
      omega
  · obtain ⟨i, hi', rfl⟩ := List.mem_iff_getElem.mp hy
    have li := (iff' i hi').mp lt
    rw [elo]
    by_cases c : i = midK ts u x - 1
    · subst c
      exact ⟨Int.le_refl _, fun _ => rfl⟩
    · have := inj i (midK ts u x - 1) hi' (by omega) (by omega)
      exact ⟨by omega, fun z => by omega⟩
  · obtain ⟨i, hi', rfl⟩ := List.mem_iff_getElem.mp hy
    have ni : ¬ i < midK ts u x := fun z => by
      have := (iff' i hi').mpr z
      omega
    rw [ehi]
    by_cases c : i = midK ts u x
    · subst c
      exact ⟨Int.le_refl _, fun _ => rfl⟩
    · have := inj _ _ kl hi' (by omega)
      exact ⟨by omega, fun z => by omega⟩
end Far

namespace Far
open PySem PySem.Spec PyProof.Rows L2
open SX (S)
theorem filt_first {α β : Type} (f : α → β) (p : β → Bool) : ∀ (l : List α) (j : Nat) (x : α), l[j]? = some x → p (f x) = true → (∀ i y, i < j → l[i]? = some y → p (f y) = false) → ∃ r, (l.map f).filter p = f x :: r
  | [], j, x, h, _, _ => by simp at h
  | a :: l, 0, x, h, hp, _ => by
    have e : a = x := by simpa using h
    subst e
    exact ⟨(l.map f).filter p, by rw [List.map_cons, List.filter_cons, if_pos hp]⟩
  | a :: l, j + 1, x, h, hp, hn => by
    obtain ⟨r, e⟩ := filt_first f p l j x (by simpa using h) hp fun i y hi hy => hn (i + 1) y (by omega) (by simpa using hy)
    have ha := hn 0 a (by omega) rfl
    exact ⟨r, by rw [List.map_cons, List.filter_cons, if_neg (by rw [ha]; decide)]; exact e⟩
section
variable {pl : List Nm} {ts : List Tie} {b : Int} {bi ei : Nat} {u x : Nm}
theorem none_before (hb : ∀ i y, i < bi → pl[i]? = some y → ∀ z ∈ pl, dist ts y z ≠ b) (hl : bi < pl.length) : ∀ m, m ≤ bi → (prs pl ts m).filter (fun t => t.1 == b) = []
  | 0, _ => rfl
  | m + 1, hm => by
    rw [prs_succ, List.filter_append, none_before hb hl m (by omega), List.nil_append, List.filter_eq_nil_iff]
    intro t ht
    have em : pl[m]? = some (pl.getD m []) := by simp [List.getD, show m < pl.length by omega]
    obtain ⟨y, hy, rfl⟩ := List.mem_map.mp ht
    have := hb m _ (by omega) em y (List.mem_of_mem_drop hy)
    simpa using this
theorem first_far (F : Fine pl ts) (hu : pl[bi]? = some u) (hx : pl[ei]? = some x) (hd : dist ts u x = b) (b1 : 1 ≤ b) (top : ∀ y ∈ pl, ∀ z ∈ pl, dist ts y z ≤ b)
    (hb : ∀ i y, i < bi → pl[i]? = some y → ∀ z ∈ pl, dist ts y z ≠ b) (he : ∀ j z, j < ei → pl[j]? = some z → dist ts u z ≠ b) : topT (0, pl.headD [], pl.headD []) (pairsOf pl ts) = (b, u, x) := by
  have mu := List.mem_of_getElem? hu
  have mx := List.mem_of_getElem? hx
  have lb : bi < pl.length := (List.getElem?_eq_some_iff.mp hu).1
  have le : ei < pl.length := (List.getElem?_eq_some_iff.mp hx).1
  have lt : bi < ei := by
    rcases Nat.lt_trichotomy bi ei with h | h | h
    · exact h
    · subst h
      have : u = x := Option.some.inj (hu.symm.trans hx)
      rw [← this, (F.tree.dist_self u).1] at hd
      omega
    · have := hb ei x h hx u mu
      rw [(F.tree.dist_symm mx mu).1] at this
      exact absurd hd this
  have base : ∃ r, (prs pl ts (bi + 1)).filter (fun t => t.1 == b) = (b, u, x) :: r := by
    rw [prs_succ, List.filter_append, none_before hb lb bi (Nat.le_refl _), List.nil_append]
    have eu : pl.getD bi [] = u := by
      show (pl[bi]?).getD [] = u
      rw [hu]
      rfl
    unfold rowP
    rw [eu]
    obtain ⟨r, e⟩ := filt_first (fun y => ((dist ts u y, u, y) : Tri)) (fun t => t.1 == b) (pl.drop (bi + 1)) (ei - (bi + 1)) x (by rw [List.getElem?_drop, show bi + 1 + (ei - (bi + 1)) = ei by omega]; exact hx) (by simpa using hd) fun i y hi hy => by
      rw [List.getElem?_drop] at hy
      have := he (bi + 1 + i) y (by omega) hy
      simpa using this
    rw [hd] at e
    exact ⟨r, e⟩
  have all : ∀ m, ∃ r, (prs pl ts (bi + 1 + m)).filter (fun t => t.1 == b) = (b, u, x) :: r := fun m => by
    induction m with
    | zero => exact base
    | succ m ih =>
      obtain ⟨r, e⟩ := ih
      refine ⟨r ++ (rowP pl ts (bi + 1 + m)).filter fun t => t.1 == b, ?_⟩
      rw [show bi + 1 + (m + 1) = bi + 1 + m + 1 by omega, prs_succ, List.filter_append, e]
      rfl
  obtain ⟨r, e⟩ := all (pl.length - (bi + 1))
  rw [show bi + 1 + (pl.length - (bi + 1)) = pl.length by omega] at e
  have e : (pairsOf pl ts).filter (fun t => t.1 == b) = (b, u, x) :: r := e
  have mem : (b, u, x) ∈ pairsOf pl ts := by
    have : (b, u, x) ∈ (pairsOf pl ts).filter fun t => t.1 == b := by
      rw [e]
      exact List.mem_cons_self ..
    exact (List.mem_filter.mp this).1
  rcases topT_is (pairsOf pl ts) (0, pl.headD [], pl.headD []) with ⟨_, h2⟩ | ⟨_, ⟨r', h2⟩, h3⟩
  · have := h2 _ mem
    exact absurd this (by show ¬ b ≤ 0; omega)
  · generalize topT (0, pl.headD [], pl.headD []) (pairsOf pl ts) = m at h2 h3
    have hm : m ∈ pairsOf pl ts := by
      have : m ∈ (pairsOf pl ts).filter fun x => x.1 == m.1 := by
        rw [h2]
        exact List.mem_cons_self ..
      exact (List.mem_filter.mp this).1
    obtain ⟨m1, m2, m3⟩ := mem_pairs hm
    have em : m.1 = b := by
      have h4 := h3 _ mem
      have h5 := top _ m1 _ m2
      rw [← m3] at h5
      have h4 : b ≤ m.1 := h4
      omega
    rw [em, e] at h2
    exact (List.cons.inj h2).1.symm
theorem top_in (F : Fine pl ts) : (topT (0, pl.headD [], pl.headD []) (pairsOf pl ts)).2.1 ∈ pl ∧ (topT (0, pl.headD [], pl.headD []) (pairsOf pl ts)).2.2 ∈ pl ∧ (topT (0, pl.headD [], pl.headD []) (pairsOf pl ts)).1 = dist ts (topT (0, pl.headD [], pl.headD []) (pairsOf pl ts)).2.1 (topT (0, pl.headD [], pl.headD []) (pairsOf pl ts)).2.2 := by
  have hh : pl.headD [] ∈ pl := by
    cases hp : pl with
    | nil => exact absurd hp F.ne
    | cons a r => exact List.mem_cons_self ..
  rcases topT_is (pairsOf pl ts) (0, pl.headD [], pl.headD []) with ⟨h1, _⟩ | ⟨_, ⟨r', h2⟩, _⟩
  · rw [h1]
    exact ⟨hh, hh, (F.tree.dist_self _).1.symm⟩
  · generalize topT (0, pl.headD [], pl.headD []) (pairsOf pl ts) = m at h2
    have hm : m ∈ pairsOf pl ts := by
      have : m ∈ (pairsOf pl ts).filter fun x => x.1 == m.1 := by
        rw [h2]
        exact List.mem_cons_self ..
      exact (List.mem_filter.mp this).1
    exact mem_pairs hm
end
noncomputable def topOf (pl : List Nm) (ts : List Tie) : Tri := topT (0, pl.headD [], pl.headD []) (pairsOf pl ts)
/-- what middle_point tells -/
noncomputable def middleD (pl : List Nm) (ts : List Tie) : PyData := .tuple [pointD pl ts (topOf pl ts).2.1 (topOf pl ts).2.2, halfD (topOf pl ts).1]
end Far

namespace Far
open PySem PySem.Spec PyProof.Rows L2
open C8 (pss_cut tCut)
open SX (S)
abbrev s_fraction : Stmt := topS 21
abbrev N_fraction : List Str := ["above", "below", "common"]
theorem sc_fraction : FnScope N_fraction ["above", "below"] (defScope s_fraction) := ⟨rfl, rfl, rfl, by decide +kernel, rfl, by decide +kernel, by decide +kernel⟩
abbrev s_half_way : Stmt := topS 20
abbrev N_half_way : List Str := ["tree", "one", "other", "way", "gone", "whole", "at", "there", "here", "place", "length"]
theorem sc_half_way : FnScope N_half_way ["tree", "one", "other"] (defScope s_half_way) := ⟨rfl, rfl, rfl, by decide +kernel, rfl, by decide +kernel, by decide +kernel⟩
abbrev s_middle_point : Stmt := topS 18
abbrev N_middle_point : List Str := ["tree", "greatest", "one", "other"]
theorem sc_middle_point : FnScope N_middle_point ["tree"] (defScope s_middle_point) := ⟨rfl, rfl, rfl, by decide +kernel, rfl, by decide +kernel, by decide +kernel⟩
section
variable {P : Program} {w : World} {K : PySem.W.Frag} {mg : Str → Option Value} {base : Heap}
def spFrac : Sp := fun vs H Q _ => ∃ n : Int, vs = [.int n, .int 2] ∧ ∀ (H' : Hp) (r : V), Same H H' → Dt H' r (halfD n) → Q r H'
theorem ok_fraction {f : Addr} {fd : FuncData} (F : Fun K "_fraction" "_fraction" s_fraction f fd) (T : TxtH mg) : FnOk P w K mg base CX0 1 f fd ["above", "below"] spFrac := by
  refine F.ok sc_fraction (fun vs H Q E h => ?_) (fun cdv A outer s H vs Q E hr h => ?_)
  · obtain ⟨n, rfl, _⟩ := h
    rfl
  · obtain ⟨n, rfl, q⟩ := h
    refine ⟨_, (pss_cons (ps_set (i := 2) sc_fraction.nd rfl (.inl rfl) (pe_callBfun cr_gcd (by rfl) T.gcd (pa_cons (pv 0) (pa_cons (pv 1) pa_nil))))
      (pss_one (ps_ret (pe_tup (pa_cons (pe_op op_fdiv (pv 0) (pv 2)) (pa_cons (pe_op op_fdiv (pv 1) (pv 2)) pa_nil)))))), ?_⟩
    refine ⟨_, rfl, _, rfl, n, 2, rfl, ?_⟩
    rw [gcd_two]
    by_cases c : n % 2 = 0
    · rw [if_pos c]
      refine ⟨_, rfl, _, rfl, _, _, rfl, rfl, ⟨by decide, by decide⟩, _, rfl, _, rfl, _, _, rfl, rfl, ⟨by decide, by decide⟩, (by show 2 ≤ sizeLine; decide), fun r nr => q _ _ (same_new (Same.refl H) nr) ?_⟩
      unfold halfD
      rw [if_pos c]
      exact .tup upd_same (.cons (.int _) (.cons (.int _) .nil))
    · rw [if_neg c]
      refine ⟨_, rfl, _, rfl, _, _, rfl, rfl, ⟨by decide, by decide⟩, _, rfl, _, rfl, _, _, rfl, rfl, ⟨by decide, by decide⟩, (by show 2 ≤ sizeLine; decide), fun r nr => q _ _ (same_new (Same.refl H) nr) ?_⟩
      unfold halfD
      rw [if_neg c]
      refine .tup upd_same (.cons ?_ (.cons (.int _) .nil))
      show Dt _ (.int (n / 1)) (.int n)
      rw [Int.ediv_one]
      exact .int _
def spHalfWay : Sp := fun vs H Q _ => ∃ (v : V) (pl : List Nm) (ts : List Tie) (u x : Nm), vs = [v, .str (S u), .str (S x)] ∧ Dt H v (treeD pl ts) ∧ PlZ H v pl ∧ Fine pl ts ∧ u ∈ pl ∧ x ∈ pl ∧ ∀ (H' : Hp) (r : V), Same H H' → Dt H' r (pointD pl ts u x) → Q r H'
theorem ok_half_way {f : Addr} {fd : FuncData} (F : Fun K "_half_way" "_half_way" s_half_way f fd) (T : TxtH mg) (Cway_between : Cal P w K mg base 3 "way_between" spWay) (Clength_between : Cal P w K mg base 3 "length_between" spLen) (C_fraction : Cal P w K mg base 1 "_fraction" spFrac) : FnOk P w K mg base CX0 4 f fd ["tree", "one", "other"] spHalfWay := by
  refine F.ok sc_half_way (fun vs H Q E h => ?_) (fun cdv A outer s H vs Q E hr h => ?_)
  · obtain ⟨v, pl, ts, u, x, rfl, _⟩ := h
    rfl
  · obtain ⟨v, pl, ts, u, x, rfl, hd, hz, fine, hu, hx, q⟩ := h
    have w := fine.tree.the_way hu hx
    have plen := path_len fine hu hx
    have inP : ∀ y ∈ path ts u x, y ∈ pl := fun y hy => w.inside (fun e he => ⟨(fine.tree.ties e he).1, (fine.tree.ties e he).2.1⟩) hu y hy
    have mf := mid_facts fine.tree hu hx
    have nd := fine.tree.nodup
    refine ⟨_, (pss_cons (ps_set (i := 3) sc_half_way.nd rfl (.inl rfl) (pe_c Cway_between hr (by decide) rfl (pa_cons (pv 0) (pa_cons (pv 1) (pa_cons (pv 2) pa_nil)))))
      (pss_cons (ps_setLc (i := 4) (own := [("place", 9)]) (g := gName 9) (tt := tYes) rfl sc_half_way.nd rfl rfl (sw_true rfl rfl rfl (by decide +kernel)) (pi_tup (pv 3)) (blkOk_by (N := N_half_way) (sc := defScope s_half_way) (by decide +kernel)) (fun _ _ _ _ _ => pg_name (i := 9) sc_half_way.nd rfl (Or.inl rfl)) (fun _ _ _ _ _ => pts_nil) (fun _ _ _ _ _ => (pe_c Clength_between hr (by decide) rfl (pa_cons (pv 0) (pa_cons (pv 1) (pa_cons (pv 9) pa_nil))))))
      (pss_cons (ps_set (i := 5) sc_half_way.nd rfl (.inr rfl) (pe_ix ix_list (pv 4) (pe_un un_neg pe_int) (fun _ _ => rfl)))
      (pss_cons (ps_set (i := 6) sc_half_way.nd rfl (.inl rfl) (pe_callB call_len_seq (by rfl) T.len bt_len (pa_cons (pe_lc (own := [("length", 10)]) (g := gName 10)  rfl sc_half_way.nd (pi_list (pv 4)) (blkOk_by (N := N_half_way) (sc := defScope s_half_way) (by decide +kernel)) (fun _ _ _ _ _ => pg_name (i := 10) sc_half_way.nd rfl (Or.inl rfl)) (fun _ _ _ _ _ => pts_one (pt_cmpR op_lt (pe_op op_mul pe_int (pv 10)) (pv 5) (nomark _))) (fun _ _ _ _ _ => (pv 10))) pa_nil)))
      (pss_cons (ps_set (i := 7) sc_half_way.nd rfl (.inl rfl) (pe_ix ix_tup (pv 3) (pv 6) (fun _ _ => rfl)))
      (pss_cut (ps_if (pt_cmpR op_eq (pe_op op_mul pe_int (pe_ix ix_list (pv 4) (pv 6) (fun _ _ => rfl))) (pv 5) (nomark _))
        (pss_one (ps_ret (pe_tup (pa_cons (pv 7) (pa_cons (pv 7) (pa_cons (pe_tup (pa_cons pe_int (pa_cons pe_int pa_nil))) pa_nil))))))
        pss_nil)
      (pss_cons (ps_set (i := 8) sc_half_way.nd rfl (.inl rfl) (pe_ix ix_tup (pv 3) (pe_op op_sub (pv 6) pe_int) (fun _ _ => rfl)))
      (pss_cut (ps_if (pt_cmpR op_lt (pe_ixZ (pe_ix ix_tup (pv 0) pe_int (fun _ _ => rfl)) (pv 8)) (pe_ixZ (pe_ix ix_tup (pv 0) pe_int (fun _ _ => rfl)) (pv 7)) (nomark _))
        (pss_one (ps_ret (pe_tup (pa_cons (pv 8) (pa_cons (pv 7) (pa_cons (pe_c C_fraction hr (by decide) rfl (pa_cons (pe_op op_sub (pv 5) (pe_op op_mul pe_int (pe_ix ix_list (pv 4) (pe_op op_sub (pv 6) pe_int) (fun _ _ => rfl)))) (pa_cons pe_int pa_nil))) pa_nil))))))
        pss_nil)
      (pss_one (ps_ret (pe_tup (pa_cons (pv 7) (pa_cons (pv 8) (pa_cons (pe_c C_fraction hr (by decide) rfl (pa_cons (pe_op op_sub (pe_op op_mul pe_int (pe_ix ix_list (pv 4) (pv 6) (fun _ _ => rfl))) (pv 5)) (pa_cons pe_int pa_nil))) pa_nil)))))))))))))), ?_⟩
    refine ⟨_, rfl, _, rfl, _, rfl, v, pl, ts, u, x, rfl, hd, fine, hu, hx, fun H1 p S1 np hp => ?_⟩
    refine ⟨_, rfl, p, rfl, ⟨_, SqT.of hp⟩, fun C nC => ?_⟩
    refine lc_tup (K := K) (a := p) (xs := ((path ts u x).map S).map V.str) (fun i H' => Same H1 H' ∧ H' C = some (.lst ((((path ts u x).take i).map (dist ts u)).map V.int))) ⟨same_new (Same.refl H1) nC, upd_same⟩ (fun i H' _ hP => SqT.of (hP.1 _ _ hp)) (fun i v' H' hi hP => ?_) (fun H' hP => ?_)
    · obtain ⟨sm, hC⟩ := hP
      obtain ⟨y, ey, hy, rfl, et⟩ := at_name hi
      refine ⟨rfl, _, rfl, _, rfl, _, rfl, v, pl, ts, u, y, rfl, Dt.keep (TK.of (S1.trans sm)) hd, fine, hu, inP y hy, fun H2 S2 => ?_⟩
      refine ⟨_, S2 _ _ hC, ?_, same_put (sm.trans S2) nC, ?_⟩
      · rw [List.length_map, List.length_map, List.length_take]
        exact sz_lt (by omega)
      · rw [upd_same, et, List.map_append, List.map_append]
        rfl
    · obtain ⟨sm, hC⟩ := hP
      rw [List.length_map, List.length_map, List.take_length] at hC
      have S2 := S1.trans sm
      have hp2 := sm _ _ hp
      have glast : atI (((path ts u x).map (dist ts u)).map V.int) (-1) = some (.int (dist ts u x)) := by
        obtain ⟨q', el⟩ := w.last
        rw [el, List.map_append, List.map_append]
        exact atI_last _ _
      refine ⟨_, rfl, _, rfl, C, _, -1, _, rfl, rfl, SqL.of hC, glast, ?_⟩
      have hgl : ((path ts u x).map (dist ts u)).length = (path ts u x).length := List.length_map _
      refine ⟨_, rfl, C, rfl, ⟨_, SqL.of hC⟩, fun B nB => ?_⟩
      refine lc_list (K := K) (a := C) (xs := ((path ts u x).map (dist ts u)).map V.int) (fun i H'' => Same H' H'' ∧ H'' B = some (.lst (((((path ts u x).map (dist ts u)).take i).filter fun z => decide (2 * z < dist ts u x)).map V.int))) ⟨same_new (Same.refl H') nB, upd_same⟩ (fun i H'' _ hP => SqL.of (hP.1 _ _ hC)) (fun i v' H'' hi hP => ?_) (fun H'' hP => ?_)
      · obtain ⟨sm2, hB⟩ := hP
        rw [List.getElem?_map] at hi
        cases em : ((path ts u x).map (dist ts u))[i]? with
        | none => rw [em] at hi; cases hi
        | some m =>
          rw [em] at hi
          have ev : v' = .int m := (Option.some.inj hi).symm
          subst ev
          have et : ((path ts u x).map (dist ts u)).take (i + 1) = ((path ts u x).map (dist ts u)).take i ++ [m] := by rw [List.take_add_one, em]; rfl
          refine ⟨rfl, _, rfl, _, _, rfl, rfl, .inl ⟨by decide, by decide⟩, _, rfl, _, _, rfl, rfl, _, rfl, ?_⟩
          rw [et, List.filter_append]
          refine ite2 (fun z => ?_) (fun z => ?_)
          · refine ⟨_, rfl, _, hB, ?_, same_put sm2 nB, ?_⟩
            · rw [List.length_map]
              have := List.length_filter_le (fun z => decide (2 * z < dist ts u x)) (((path ts u x).map (dist ts u)).take i)
              rw [List.length_take] at this
              exact sz_lt (by omega)
            · rw [upd_same, List.filter_cons, if_pos z, List.map_append]
              rfl
          · rw [List.filter_cons, if_neg z, List.filter_nil, List.append_nil]
            exact ⟨sm2, hB⟩
      · obtain ⟨sm2, hB⟩ := hP
        rw [List.length_map, List.take_length] at hB
        have S3 := S2.trans sm2
        have hp3 := sm2 _ _ hp2
        have hC3 := sm2 _ _ hC
        refine ⟨B, _, rfl, .inl (SqL.of hB), ?_⟩
        rw [List.length_map]
        have ek : ((((path ts u x).map (dist ts u)).filter fun z => decide (2 * z < dist ts u x)).length : Int) = (midK ts u x : Int) := rfl
        rw [ek]
        obtain ⟨t, a, b, o, rfl, ht, od, haz⟩ := hz
        have gw : ∀ {k : Nat} {y : Nm}, (path ts u x)[k]? = some y → atI (((path ts u x).map S).map V.str) (k : Int) = some (.str (S y)) := fun h => atI_nat (by rw [List.getElem?_map, List.getElem?_map, h]; rfl)
        have gg : ∀ {k : Nat} {y : Nm}, (path ts u x)[k]? = some y → atI (((path ts u x).map (dist ts u)).map V.int) (k : Int) = some (.int (dist ts u y)) := fun h => atI_nat (by rw [List.getElem?_map, List.getElem?_map, h]; rfl)
        refine ⟨_, rfl, _, rfl, p, _, (midK ts u x : Int), _, rfl, rfl, SqT.of hp3, gw mf.hiE, ?_⟩
        refine ⟨fun σ3 H3 => σ3 = [some (.ref t), some (.str (S u)), some (.str (S x)), some (.ref p), some (.ref C), some (.int (dist ts u x)), some (.int (midK ts u x : Nat)), some (.str (S (hi ts u x))), none, none, none] ∧ H3 = H'' ∧ 2 * dist ts u (hi ts u x) ≠ dist ts u x, ?_, fun σ3 H3 hM => ?_⟩
        · refine ⟨_, rfl, _, rfl, C, _, (midK ts u x : Int), _, rfl, rfl, SqL.of hC3, gg mf.hiE, _, _, rfl, rfl, .inl ⟨by decide, by decide⟩, _, rfl, rfl, _, rfl, ?_⟩
          refine ite2 (fun z => ?_) (fun z => ⟨rfl, rfl, fun k => z (decide_eq_true (congrArg V.int k))⟩)
          have z : 2 * dist ts u (hi ts u x) = dist ts u x := V.int.inj (of_decide_eq_true z)
          refine ⟨_, rfl, _, rfl, (by show 2 ≤ sizeLine; decide), fun t1 nt1 => ⟨(by show 3 ≤ sizeLine; decide), fun t2 nt2 => ?_⟩⟩
          refine q _ _ (same_new (same_new S3 nt1) nt2) ?_
          unfold pointD
          rw [if_pos z]
          exact .tup upd_same (.cons (.str _) (.cons (.str _) (.cons (.tup ((TK.new nt2).tup _ _ upd_same) (.cons (.int _) (.cons (.int _) .nil))) .nil)))
        · obtain ⟨rfl, rfl, ne⟩ := hM
          obtain ⟨k1, loE, loM, loL⟩ := mf.loE ne
          have ek1 : (midK ts u x : Int) - 1 = ((midK ts u x - 1 : Nat) : Int) := by omega
          refine ⟨_, rfl, _, rfl, _, _, rfl, rfl, p, _, (midK ts u x : Int) - 1, _, rfl, rfl, SqT.of hp3, by rw [ek1]; exact gw loE, ?_⟩
          obtain ⟨i1, i2⟩ := idx_at nd (inP _ loM)
          obtain ⟨j1, j2⟩ := idx_at nd (inP _ mf.hiM)
          have ht3 := S3 _ _ ht
          have ha3 := S3 _ _ haz
          refine ⟨fun σ4 H4 => σ4 = [some (.ref t), some (.str (S u)), some (.str (S x)), some (.ref p), some (.ref C), some (.int (dist ts u x)), some (.int (midK ts u x : Nat)), some (.str (S (hi ts u x))), some (.str (S (lo ts u x))), none, none] ∧ H4 = H3 ∧ ¬ pl.idxOf (lo ts u x) < pl.idxOf (hi ts u x), ?_, fun σ4 H4 hM => ?_⟩
          · refine ⟨_, rfl, t, _, 0, .ref a, rfl, rfl, SqT.of ht3, atI_nat (j := 0) rfl, a, _, o, rfl, od, ha3, _, rfl, rfl, _, _, rfl, i1, i2, ?_⟩
            refine ⟨_, rfl, t, _, 0, .ref a, rfl, rfl, SqT.of ht3, atI_nat (j := 0) rfl, a, _, o, rfl, od, ha3, _, rfl, rfl, _, _, rfl, j1, j2, _, _, rfl, rfl, _, rfl, ?_⟩
            refine ite2 (fun z => ?_) (fun z => ⟨rfl, rfl, fun k => z (decide_eq_true (by omega))⟩)
            have z : pl.idxOf (lo ts u x) < pl.idxOf (hi ts u x) := by
              have := of_decide_eq_true z
              omega
            refine ⟨_, rfl, _, rfl, _, rfl, _, rfl, _, rfl, _, _, rfl, rfl, C, _, (midK ts u x : Int) - 1, _, rfl, rfl, SqL.of hC3, by rw [ek1]; exact gg loE, _, _, rfl, rfl, .inl ⟨by decide, by decide⟩, _, _, rfl, rfl, _, rfl, fun H5 r S5 hr5 => ?_⟩
            refine ⟨(by show 3 ≤ sizeLine; decide), fun t2 nt2 => ?_⟩
            refine q _ _ (same_new (S3.trans S5) nt2) ?_
            unfold pointD
            rw [if_neg ne, if_pos z]
            exact .tup upd_same (.cons (.str _) (.cons (.str _) (.cons (Dt.keep (TK.new nt2) hr5) .nil)))
          · obtain ⟨rfl, rfl, nlt⟩ := hM
            refine ⟨_, rfl, _, rfl, _, rfl, _, rfl, C, _, (midK ts u x : Int), _, rfl, rfl, SqL.of hC3, gg mf.hiE, _, _, rfl, rfl, .inl ⟨by decide, by decide⟩, _, rfl, _, _, rfl, rfl, _, rfl, fun H5 r S5 hr5 => ?_⟩
            refine ⟨(by show 3 ≤ sizeLine; decide), fun t2 nt2 => ?_⟩
            refine q _ _ (same_new (S3.trans S5) nt2) ?_
            unfold pointD
            rw [if_neg ne, if_neg nlt]
            exact .tup upd_same (.cons (.str _) (.cons (.str _) (.cons (Dt.keep (TK.new nt2) hr5) .nil)))
def spMp : Sp := fun vs H Q _ => ∃ (v : V) (pl : List Nm) (ts : List Tie), vs = [v] ∧ Dt H v (treeD pl ts) ∧ PlZ H v pl ∧ Fine pl ts ∧ ∀ (H' : Hp) (r : V), Same H H' → Dt H' r (middleD pl ts) → Q r H'
theorem ok_mp {f : Addr} {fd : FuncData} (F : Fun K "middle_point" "middle_point" s_middle_point f fd) (Cfarthest : Cal P w K mg base 5 "farthest" spFarthest) (C_half_way : Cal P w K mg base 4 "_half_way" spHalfWay) (C_fraction : Cal P w K mg base 1 "_fraction" spFrac) : FnOk P w K mg base CX0 6 f fd ["tree"] spMp := by
  refine F.ok sc_middle_point (fun vs H Q E h => ?_) (fun cdv A outer s H vs Q E hr h => ?_)
  · obtain ⟨v, pl, ts, rfl, _⟩ := h
    rfl
  · obtain ⟨v, pl, ts, rfl, hd, hz, fine, q⟩ := h
    obtain ⟨tu, tx, td⟩ := top_in fine
    refine ⟨_, (pss_cons (ps_asg (pe_c Cfarthest hr (by decide) rfl (pa_cons (pv 0) pa_nil)) (pg_tup rfl (pgs_cons (pg_name (i := 1) sc_middle_point.nd rfl (.inl rfl)) (pgs_cons (pg_name (i := 2) sc_middle_point.nd rfl (.inl rfl)) (pgs_cons (pg_name (i := 3) sc_middle_point.nd rfl (.inl rfl)) pgs_nil)))))
      (pss_one (ps_ret (pe_tup (pa_cons (pe_c C_half_way hr (by decide) rfl (pa_cons (pv 0) (pa_cons (pv 2) (pa_cons (pv 3) pa_nil)))) (pa_cons (pe_c C_fraction hr (by decide) rfl (pa_cons (pv 1) (pa_cons pe_int pa_nil))) pa_nil)))))), ?_⟩
    refine ⟨_, rfl, v, pl, ts, rfl, hd, fine, fun H1 r S1 hr1 => ?_⟩
    rw [(farD_top fine).1] at hr1
    obtain ⟨t1, rfl, ht1⟩ := dt_tri hr1
    refine ⟨t1, _, rfl, SqT.of ht1, rfl, _, _, rfl, _, _, rfl, _, _, rfl, rfl, ?_⟩
    refine ⟨_, rfl, _, rfl, _, rfl, v, pl, ts, _, _, rfl, Dt.keep (TK.of S1) hd, hz.same S1, fine, tu, tx, fun H2 r2 S2 hr2 => ?_⟩
    refine ⟨_, rfl, _, rfl, fun H3 r3 S3 hr3 => ?_⟩
    refine ⟨(by show 2 ≤ sizeLine; decide), fun t2 nt2 => ?_⟩
    refine q _ _ (same_new ((S1.trans S2).trans S3) nt2) ?_
    exact .tup upd_same (.cons (Dt.keep ((TK.of S3).trans (TK.new nt2)) hr2) (.cons (Dt.keep (TK.new nt2) hr3) .nil))
end
end Far

namespace Far
open PySem PySem.Spec PyProof.Rows L2
open C8 (pss_cut tCut)
open SX (S)
open RZ (ItzT iZipA pi_zipA)
structure TxtM (mg : Str → Option Value) : Prop where
  tuple : mg "tuple" = none
  max : mg "max" = none
  min : mg "min" = none
  zip : mg "zip" = none
  range : mg "range" = none
noncomputable def midN (pl : List Nm) (ts : List Tie) : Int := mnG (pl.map (rch pl ts))
noncomputable def foeD (pl : List Nm) (ts : List Tie) : PyData := .tuple ((pl.map (rch pl ts)).map .int)
noncomputable def midD (pl : List Nm) (ts : List Tie) : PyData := .tuple [.int (midN pl ts), thoseD pl (rch pl ts) (midN pl ts)]
theorem zip_it {K : PySem.W.Frag} {a b : Addr} {xs ys : List V} {g : TG} {tt : TT} {te : TE} {vs : List Nat} {σ : L2.St} {H1 : Hp} {D : Addr} {Qd : Hp → Prop} (len : xs.length = ys.length) (Pv : Nat → Hp → Prop) (h0 : Pv 0 (upd H1 D (.lst []))) (hl : ∀ i H, Pv i H → SqT K H a xs ∧ SqT K H b ys)
    (hs : ∀ i x y H T, xs[i]? = some x → ys[i]? = some y → Pv i H → H T = none → g (.ref T) (wipe σ vs) (upd H T (.tup [x, y])) fun σ2 H2 => wipe σ2 vs = wipe σ vs ∧ tt σ2 H2 fun b H3 =>
      if b = true then te σ2 H3 fun y H4 => ∃ acc, H4 D = some (.lst acc) ∧ acc.length < sizeLine ∧ Pv (i + 1) (upd H4 D (.lst (acc ++ [y]))) else Pv (i + 1) H3) (hd : ∀ H, Pv xs.length H → Qd H) :
    ∃ W : Nat → Nat → Hp → Prop, (∃ m, W 0 m (upd H1 D (.lst []))) ∧ ∀ i m H, W i m H →
      ((ItzT K a b).stop i H ∧ Qd H) ∨ ((ItzT K a b).go i H ∧ ∃ Nx : Hp → Prop, (∀ H', Nx H' → ∃ m', m' < m ∧ W (i + 1) m' H') ∧ ∀ v H', (ItzT K a b).yld i H v H' → g v (wipe σ vs) H' fun σ2 H2 => wipe σ2 vs = wipe σ vs ∧ tt σ2 H2 fun b H3 =>
        if b = true then te σ2 H3 fun y H4 => ∃ acc, H4 D = some (.lst acc) ∧ acc.length < sizeLine ∧ Nx (upd H4 D (.lst (acc ++ [y]))) else Nx H3) := by
  refine ⟨fun i m H => m = xs.length - i ∧ i ≤ xs.length ∧ Pv i H, ⟨xs.length, by simp, Nat.zero_le _, h0⟩, fun i m H ⟨em, hi, p⟩ => ?_⟩
  obtain ⟨q1, q2⟩ := hl i H p
  by_cases lt : i < xs.length
  · have lt2 : i < ys.length := by omega
    refine .inr ⟨⟨xs, ys, xs[i], ys[i], q1, q2, by simp [lt], by simp [lt2]⟩, Pv (i + 1), fun H' p' => ⟨xs.length - (i + 1), by omega, rfl, lt, p'⟩, fun v H' ⟨T, x, y, ev, nT, eH, hx, hy⟩ => ?_⟩
    rw [ev, eH]
    exact hs i x y H T (hx xs q1) (hy ys q2) p nT
  · have e : i = xs.length := by omega
    rw [e] at p
    exact .inl ⟨⟨xs, ys, q1, q2, .inl (by omega)⟩, hd H p⟩
abbrev s_farthest_of_each : Stmt := topS 16
abbrev N_farthest_of_each : List Str := ["tree", "place"]
theorem sc_farthest_of_each : FnScope N_farthest_of_each ["tree"] (defScope s_farthest_of_each) := ⟨rfl, rfl, rfl, by decide +kernel, rfl, by decide +kernel, by decide +kernel⟩
abbrev s_middles : Stmt := topS 17
abbrev N_middles : List Str := ["tree", "reaches", "least", "place", "reach"]
theorem sc_middles : FnScope N_middles ["tree"] (defScope s_middles) := ⟨rfl, rfl, rfl, by decide +kernel, rfl, by decide +kernel, by decide +kernel⟩
section
variable {P : Program} {w : World} {K : PySem.W.Frag} {mg : Str → Option Value} {base : Heap}
def spFoe : Sp := fun vs H Q _ => ∃ (v : V) (pl : List Nm) (ts : List Tie), vs = [v] ∧ Dt H v (treeD pl ts) ∧ Fine pl ts ∧ ∀ (H' : Hp) (q : Addr), Same H H' → H q = none → H' q = some (.tup ((pl.map (rch pl ts)).map V.int)) → Q (.ref q) H'
def spMid : Sp := fun vs H Q _ => ∃ (v : V) (pl : List Nm) (ts : List Tie), vs = [v] ∧ Dt H v (treeD pl ts) ∧ Fine pl ts ∧ ∀ (H' : Hp) (r : V), Same H H' → Dt H' r (midD pl ts) → Q r H'
theorem ok_foe {f : Addr} {fd : FuncData} (F : Fun K "farthest_of_each" "farthest_of_each" s_farthest_of_each f fd) (T : TxtM mg) (Clengths_from : Cal P w K mg base 3 "lengths_from" spLens) : FnOk P w K mg base CX0 4 f fd ["tree"] spFoe := by
  refine F.ok sc_farthest_of_each (fun vs H Q E h => ?_) (fun cdv A outer s H vs Q E hr h => ?_)
  · obtain ⟨v, pl, ts, rfl, _⟩ := h
    rfl
  · obtain ⟨v, pl, ts, rfl, hd, fine, q⟩ := h
    obtain ⟨t, a, b, vs, rfl, ht, ha, hb, hA⟩ := dt_tree hd
    have pl1 := fine.len
    refine ⟨_, (pss_one (ps_ret (pe_tupleOf (by rfl) T.tuple (pe_lc (own := [("place", 1)]) (g := gName 1) (tt := tYes) rfl sc_farthest_of_each.nd (pi_tup (pe_ix ix_tup (pv 0) pe_int (fun _ _ => rfl))) (blkOk_by (N := N_farthest_of_each) (sc := defScope s_farthest_of_each) (by decide +kernel)) (fun _ _ _ _ _ => pg_name (i := 1) sc_farthest_of_each.nd rfl (Or.inl rfl)) (fun _ _ _ _ _ => pts_nil) (fun _ _ _ _ _ => (pe_callB (cr_maxT (K := K) rfl) (by rfl) T.max bt_max (pa_cons (pe_c Clengths_from hr (by decide) rfl (pa_cons (pv 0) (pa_cons (pv 1) pa_nil))) pa_nil))))))), ?_⟩
    refine ⟨_, rfl, t, _, 0, .ref a, rfl, rfl, SqT.of ht, atI_nat (j := 0) rfl, a, rfl, ⟨_, ha.sq⟩, fun D nD => ?_⟩
    refine lc_tup (K := K) (a := a) (xs := (pl.map S).map V.str) (fun i H' => Same H H' ∧ H' D = some (.lst (((pl.take i).map (rch pl ts)).map V.int))) ⟨same_new (Same.refl H) nD, upd_same⟩ (fun i H' _ hP => (ha.same hP.1).sq) (fun i v H' hi hP => ?_) (fun H' hP => ?_)
    · obtain ⟨SM, hD⟩ := hP
      obtain ⟨x, ex, hx, rfl, et⟩ := at_name hi
      refine ⟨rfl, _, rfl, _, rfl, .ref t, pl, ts, x, rfl, Dt.keep (TK.of SM) hd, fine, hx, fun H2 L S2 nL hL => ?_⟩
      rw [map_int] at hL
      refine ⟨L, _, rfl, SqT.of hL, by rw [List.length_map]; exact List.length_pos_of_mem hx, fun m hm hle => ?_⟩
      rw [mxG_is hm hle]
      refine ⟨_, S2 _ _ hD, ?_, same_put (SM.trans S2) nD, ?_⟩
      · rw [List.length_map, List.length_map, List.length_take]
        exact sz_lt (by omega)
      · rw [upd_same, et, List.map_append, List.map_append]
        rfl
    · obtain ⟨SM, hD⟩ := hP
      rw [List.length_map, List.length_map, List.take_length] at hD
      exact .inl ⟨D, _, rfl, SqL.of hD, fun q1 nq1 => q _ q1 (same_new SM nq1) (SM.free nq1) upd_same⟩
theorem ok_middles {f : Addr} {fd : FuncData} (F : Fun K "middles" "middles" s_middles f fd) (T : TxtM mg) (Cfarthest_of_each : Cal P w K mg base 4 "farthest_of_each" spFoe) : FnOk P w K mg base CX0 5 f fd ["tree"] spMid := by
  refine F.ok sc_middles (fun vs H Q E h => ?_) (fun cdv A outer s H vs Q E hr h => ?_)
  · obtain ⟨v, pl, ts, rfl, _⟩ := h
    rfl
  · obtain ⟨v, pl, ts, rfl, hd, fine, q⟩ := h
    obtain ⟨t, a, b, vs, rfl, ht, ha, hb, hA⟩ := dt_tree hd
    have pl1 := fine.len
    have pl0 : 0 < (pl.map (rch pl ts)).length := by
      rw [List.length_map]
      exact List.length_pos_iff.mpr fine.ne
    refine ⟨_, (pss_cons (ps_set (i := 1) sc_middles.nd rfl (.inl rfl) (pe_c Cfarthest_of_each hr (by decide) rfl (pa_cons (pv 0) pa_nil)))
      (pss_cons (ps_set (i := 2) sc_middles.nd rfl (.inr rfl) (pe_callB (cr_minT (K := K) rfl) (by rfl) T.min bt_min (pa_cons (pv 1) pa_nil)))
      (pss_one (ps_ret (pe_tup (pa_cons (pv 2) (pa_cons (pe_tupleOf (by rfl) T.tuple (pe_lc (own := [("place", 3), ("reach", 4)]) (g := gTup K 2 (gCons (gName 3) (gCons (gName 4) gNil)))  rfl sc_middles.nd (pi_zipA (by rfl) T.zip (pa_cons (pe_ix ix_tup (pv 0) pe_int (fun _ _ => rfl)) (pa_cons (pv 1) pa_nil))) (blkOk_by (N := N_middles) (sc := defScope s_middles) (by decide +kernel)) (fun _ _ _ _ _ => (pg_tup rfl (pgs_cons (pg_name (i := 3) sc_middles.nd rfl (.inl rfl)) (pgs_cons (pg_name (i := 4) sc_middles.nd rfl (.inl rfl)) pgs_nil)))) (fun _ _ _ _ _ => pts_one (pt_cmpR op_eq (pv 4) (pv 2) (nomark _))) (fun _ _ _ _ _ => (pv 3)))) pa_nil))))))), ?_⟩
    refine ⟨_, rfl, .ref t, pl, ts, rfl, hd, fine, fun H1 L S1 nL hL => ?_⟩
    refine ⟨_, rfl, L, _, rfl, SqT.of hL, pl0, fun m hm hle => ?_⟩
    have em := mnG_is hm hle
    subst em
    refine ⟨_, rfl, _, rfl, t, _, 0, .ref a, rfl, rfl, SqT.of (S1 _ _ ht), atI_nat (j := 0) rfl, _, rfl, a, L, _, _, rfl, .inr ⟨(ha.same S1).sq, SqT.of hL, fun D nD => ?_⟩⟩
    refine zip_it (xs := (pl.map S).map V.str) (ys := (pl.map (rch pl ts)).map V.int) (by simp) (fun i H' => Same H1 H' ∧ H' D = some (.lst ((((pl.take i).filter fun x => rch pl ts x == midN pl ts).map S).map V.str))) ⟨same_new (Same.refl H1) nD, upd_same⟩ (fun i H' hP => ⟨(ha.same (S1.trans hP.1)).sq, SqT.of (hP.1 _ _ hL)⟩) (fun i x y H' T hx hy hP nT => ?_) (fun H' hP => ?_)
    · obtain ⟨SM, hD⟩ := hP
      obtain ⟨l, ex, hl, rfl, et⟩ := at_name hx
      rw [List.getElem?_map, List.getElem?_map, ex] at hy
      cases hy
      have et := take_snoc_filter (f := rch pl ts) (n := midN pl ts) et
      have DT : D ≠ T := ne_of_none hD nT
      have hD2 : (upd H' T (.tup [.str (S l), .int (rch pl ts l)])) D = some (.lst ((((pl.take i).filter fun x => rch pl ts x == midN pl ts).map S).map V.str)) := by
        rw [upd_ne DT]
        exact hD
      refine ⟨T, _, rfl, SqT.of upd_same, rfl, _, _, rfl, _, _, rfl, rfl, rfl, _, rfl, _, rfl, rfl, _, rfl, ?_⟩
      refine ite2 (fun z => ?_) (fun z => ?_)
      · have z : rch pl ts l = midN pl ts := V.int.inj (of_decide_eq_true z)
        rw [if_pos z] at et
        refine ⟨_, rfl, _, hD2, ?_, same_put (same_new SM nT) nD, ?_⟩
        · rw [List.length_map, List.length_map]
          refine sz_lt ?_
          have := List.length_filter_le (fun x => rch pl ts x == midN pl ts) (pl.take i)
          rw [List.length_take] at this
          omega
        · rw [upd_same, et, List.map_append, List.map_append]
          rfl
      · have z : rch pl ts l ≠ midN pl ts := fun y => z (by rw [show mnG (pl.map (rch pl ts)) = midN pl ts from rfl, y]; exact decide_eq_true rfl)
        rw [if_neg z, List.append_nil] at et
        exact ⟨same_new SM nT, by rw [et]; exact hD2⟩
    · obtain ⟨SM, hD⟩ := hP
      rw [List.length_map, List.length_map, List.take_length] at hD
      refine .inl ⟨D, _, rfl, SqL.of hD, fun q1 nq1 => ?_⟩
      refine ⟨(by show 2 ≤ sizeLine; decide), fun q2 nq2 => ?_⟩
      refine q _ _ (same_new (same_new (S1.trans SM) nq1) nq2) (.tup upd_same (.cons (.int _) (.cons (.tup ?_ (dts_S _ _)) .nil)))
      rw [upd_ne (ne_of_none upd_same nq2)]
      exact upd_same
end
end Far

namespace Far
open PySem PySem.Spec PyProof.Rows L2
open SX (S)
/-! ### the middle of a farthest pair is a point that all places are near to -/
/-- names that are names, a below that is not too great -/
def PtOk (B : Int) (p : Pt) : Prop := NameOk p.1 ∧ NameOk p.2.1 ∧ -B ≤ p.2.2.2 ∧ p.2.2.2 ≤ B
theorem dbl_place {pl : List Nm} {ts : List Tie} (F : IsTree pl ts) (u y : Nm) : dbl ts (u, u, 0, 1) y = 2 * dist ts u y := by
  unfold dbl mn2
  have := (F.dist_self u).1
  dsimp only
  rw [this, if_neg (by omega)]
  omega
/-- the length of a tie is how far its ends are apart -/
theorem tie_len {pl : List Nm} {ts : List Tie} (F : IsTree pl ts) {a b : Nm} (ne : a ≠ b) {t : Tie} (m : t ∈ ts) (j : joins a b t = true) : dist ts a b = t.2.2 := by
  have hadj : Adj ts a b t.2.2 := by
    unfold joins at j
    have c4 := of_decide_eq_true j
    simp only [List.mem_cons, List.not_mem_nil, or_false] at c4
    obtain ⟨t1, t2, t3⟩ := t
    rcases c4 with e | e
    · have e1 : t1 = a := congrArg Prod.fst e
      have e2 : t2 = b := congrArg Prod.snd e
      subst e1 e2
      exact .inl m
    · have e1 : t1 = b := congrArg Prod.fst e
      have e2 : t2 = a := congrArg Prod.snd e
      subst e1 e2
      exact .inr m
  have w : Way ts a b ([a] ++ [b]) (0 + t.2.2) := .snoc .nil hadj (fun h => ne (List.mem_singleton.mp h).symm)
  rw [(F.is_way w).2, Int.zero_add]
/-- two ties of a tree that join the same two places are as long -/
theorem tie_one {pl : List Nm} {ts : List Tie} (F : IsTree pl ts) {a b : Nm} (ne : a ≠ b) {t u : Tie} (m : t ∈ ts) (m2 : u ∈ ts) (j : joins a b t = true) (j2 : joins a b u = true) : t.2.2 = u.2.2 :=
  (tie_len F ne m j).symm.trans (tie_len F ne m2 j2)
/-- of two places of a way the nearer one stands on the way to the other -/
theorem IsTree.between {pl : List Nm} {ts : List Tie} (F : IsTree pl ts) {u x m l : Nm} (hu : u ∈ pl) (hx : x ∈ pl) (hm : m ∈ path ts u x) (hl : l ∈ path ts u x) (le : dist ts u m ≤ dist ts u l) : dist ts u m + dist ts m l = dist ts u l := by
  have w := F.the_way hu hx
  have pin : ∀ y ∈ path ts u x, y ∈ pl := fun y hy => w.inside (fun e he => ⟨(F.ties e he).1, (F.ties e he).2.1⟩) hu y hy
  obtain ⟨p1, p2, e⟩ := List.append_of_mem hl
  obtain ⟨L1, L2, w1, _, _⟩ := w.split e
  have e1 := F.is_way w1
  have rise := (w.rising F).1
  have hm' : m ∈ path ts u l := by
    rw [e1.1]
    rw [e] at hm
    rcases List.mem_append.mp hm with z | z
    · exact List.mem_append_left _ z
    · rcases List.mem_cons.mp z with z | z
      · exact z ▸ List.mem_append_right _ (List.mem_singleton.mpr rfl)
      · exfalso
        rw [e, List.map_append, List.map_cons] at rise
        have := (List.pairwise_cons.mp (List.pairwise_append.mp rise).2.1).1 _ (List.mem_map_of_mem z)
        omega
  exact (F.over hu (pin l hl) (pin m hm)).2.1.mpr hm'
/-- where the ways of three places meet -/
theorem IsTree.meet {pl : List Nm} {ts : List Tie} (F : IsTree pl ts) {u x y : Nm} (hu : u ∈ pl) (hx : x ∈ pl) (hy : y ∈ pl) : ∃ m ∈ path ts u x, m ∈ pl ∧ dist ts u m + dist ts m x = dist ts u x ∧ dist ts u m + dist ts m y = dist ts u y ∧ dist ts y m + dist ts m x = dist ts y x := by
  obtain ⟨_, _, m, em⟩ := F.over hu hx hy
  have hm : m ∈ (path ts u x).filter (fun z => decide (z ∈ path ts u y) && decide (z ∈ path ts y x)) := by rw [em]; exact List.mem_singleton.mpr rfl
  obtain ⟨h1, h2⟩ := List.mem_filter.mp hm
  rw [Bool.and_eq_true, decide_eq_true_eq, decide_eq_true_eq] at h2
  have mp : m ∈ pl := (F.the_way hu hx).inside (fun e he => ⟨(F.ties e he).1, (F.ties e he).2.1⟩) hu m h1
  exact ⟨m, h1, mp, (F.over hu hx mp).2.1.mpr h1, (F.over hu hy mp).2.1.mpr h2.1, (F.over hy hx mp).2.1.mpr h2.2⟩
def halfP (n : Int) : Int × Int := if n % 2 = 0 then (n / 2, 1) else (n, 2)
theorem halfP_D (n : Int) : halfD n = .tuple [.int (halfP n).1, .int (halfP n).2] := by
  unfold halfD halfP
  split <;> rfl
theorem halfP_is (n : Int) : 2 * (halfP n).1 = n * (halfP n).2 ∧ ((halfP n).2 = 1 ∨ (halfP n).2 = 2) ∧ ((Nat.gcd (halfP n).1.natAbs (halfP n).2.natAbs : Nat) : Int) = 1 := by
  unfold halfP
  by_cases c : n % 2 = 0
  · rw [if_pos c]
    refine ⟨by show 2 * (n / 2) = n * 1; omega, .inl rfl, ?_⟩
    show ((Nat.gcd (n / 2).natAbs 1 : Nat) : Int) = 1
    rw [Nat.gcd_one_right]
    rfl
  · rw [if_neg c]
    refine ⟨by show 2 * n = n * 2; omega, .inr rfl, ?_⟩
    show ((Nat.gcd n.natAbs 2 : Nat) : Int) = 1
    have := gcd_two n
    rw [if_neg c] at this
    exact this
/-- the point amid the way between two places -/
noncomputable def mpt (pl : List Nm) (ts : List Tie) (u x : Nm) : Pt :=
  if 2 * dist ts u (hi ts u x) = dist ts u x then (hi ts u x, hi ts u x, 0, 1)
  else if pl.idxOf (lo ts u x) < pl.idxOf (hi ts u x) then (lo ts u x, hi ts u x, halfP (dist ts u x - 2 * dist ts u (lo ts u x)))
  else (hi ts u x, lo ts u x, halfP (2 * dist ts u (hi ts u x) - dist ts u x))
theorem mpt_D (pl : List Nm) (ts : List Tie) (u x : Nm) : pointD pl ts u x = ptD (mpt pl ts u x) := by
  unfold pointD mpt
  by_cases c : 2 * dist ts u (hi ts u x) = dist ts u x
  · rw [if_pos c, if_pos c]
    rfl
  · rw [if_neg c, if_neg c]
    by_cases c2 : pl.idxOf (lo ts u x) < pl.idxOf (hi ts u x)
    · rw [if_pos c2, if_pos c2, halfP_D]
      rfl
    · rw [if_neg c2, if_neg c2, halfP_D]
      rfl
theorem half_ok {n : Int} : -2 ≤ (halfP n).2 ∧ (halfP n).2 ≤ 2 := by
  rcases (halfP_is n).2.1 with e | e <;> rw [e] <;> decide
theorem mpt_ok {pl : List Nm} {ts : List Tie} (F : Fine pl ts) {u x : Nm} (hu : u ∈ pl) (hx : x ∈ pl) : PtOk 2 (mpt pl ts u x) := by
  have mf := mid_facts F.tree hu hx
  have pin : ∀ y ∈ path ts u x, y ∈ pl := fun y hy => (F.tree.the_way hu hx).inside (fun e he => ⟨(F.tree.ties e he).1, (F.tree.ties e he).2.1⟩) hu y hy
  have nh := F.ok _ (pin _ mf.hiM)
  unfold mpt
  by_cases c : 2 * dist ts u (hi ts u x) = dist ts u x
  · rw [if_pos c]
    exact ⟨nh, nh, (by show (-2 : Int) ≤ 1; decide), (by show (1 : Int) ≤ 2; decide)⟩
  · rw [if_neg c]
    have nl := F.ok _ (pin _ (mf.loE c).2.2.1)
    by_cases c2 : pl.idxOf (lo ts u x) < pl.idxOf (hi ts u x)
    · rw [if_pos c2]
      exact ⟨nl, nh, half_ok⟩
    · rw [if_neg c2]
      exact ⟨nh, nl, half_ok⟩
section
variable {ts : List Tie} {a b : Nm} {P Q D A L : Int}
theorem core (hq : Q = 1 ∨ Q = 2) (hp : 2 * P = (D - 2 * A) * Q) (hL : dist ts a b = L) (n0 : 0 < D - 2 * A) (n1 : D - 2 * A < 2 * L) {y : Nm} :
    (dist ts a y ≤ A ∨ dist ts b y ≤ D - A - L → dbl ts (a, b, P, Q) y ≤ D * Q) ∧ (dist ts a y = A ∧ dist ts b y = A + L → dbl ts (a, b, P, Q) y = D * Q) ∧ (dist ts a y = D - A ∧ dist ts b y = D - A - L → dbl ts (a, b, P, Q) y = D * Q) := by
  have e : dbl ts (a, b, P, Q) y = 2 * (if (dist ts b y + L) * Q - P < dist ts a y * Q + P then (dist ts b y + L) * Q - P else dist ts a y * Q + P) := by
    unfold dbl mn2
    rw [← hL]
  rw [e]
  rcases hq with rfl | rfl
  · refine ⟨fun h => ?_, fun h => ?_, fun h => ?_⟩ <;> split <;> omega
  · refine ⟨fun h => ?_, fun h => ?_, fun h => ?_⟩ <;> split <;> omega
end
theorem join_symm (a b : Nm) (t : Tie) : joins a b t = joins b a t := by
  unfold joins
  refine decide_eq_decide.mpr ?_
  simp only [List.mem_cons, List.not_mem_nil, or_false]
  exact Or.comm
theorem adj_find {ts : List Tie} {a b : Nm} {k : Int} (h : Adj ts a b k) : ∃ t, ts.find? (joins a b) = some t := by
  obtain ⟨t, ht, jt⟩ : ∃ t ∈ ts, joins a b t = true := by
    rcases h with h | h
    · exact ⟨_, h, decide_eq_true (by simp)⟩
    · exact ⟨_, h, decide_eq_true (by simp)⟩
  cases e : ts.find? (joins a b) with
  | some t => exact ⟨t, rfl⟩
  | none => exact absurd jt (List.find?_eq_none.mp e t ht)
theorem isPt_tie {pl : List Nm} {ts : List Tie} (F : IsTree pl ts) {a b : Nm} {P Q k : Int} (ne : a ≠ b) (h : Adj ts a b k) (q1 : 1 ≤ Q) (g : ((Nat.gcd P.natAbs Q.natAbs : Nat) : Int) = 1) (p0 : 0 < P) (p1 : P < dist ts a b * Q) (lt : pl.idxOf a < pl.idxOf b) : isPt pl ts (a, b, P, Q) = true := by
  obtain ⟨t, ht⟩ := adj_find h
  have el := tie_len F ne (List.mem_of_find?_eq_some ht) (List.find?_some ht)
  unfold isPt
  rw [if_neg ne]
  show (if Q < 1 then false else if ((Nat.gcd P.natAbs Q.natAbs : Nat) : Int) ≠ 1 then false else match ts.find? (joins a b) with | none => false | some t => decide (0 < P) && decide (P < t.2.2 * Q) && decide (pl.idxOf a < pl.idxOf b)) = true
  rw [if_neg (by omega), if_neg (fun z => z g), ht]
  show (decide (0 < P) && decide (P < t.2.2 * Q) && decide (pl.idxOf a < pl.idxOf b)) = true
  rw [← el, decide_eq_true p0, decide_eq_true p1, decide_eq_true lt]
  rfl
theorem mid_shown {pl : List Nm} {ts : List Tie} (F : Fine pl ts) {u x : Nm} (hu : u ∈ pl) (hx : x ∈ pl) (top : ∀ y ∈ pl, ∀ z ∈ pl, dist ts y z ≤ dist ts u x) : shown pl ts (dist ts u x) (mpt pl ts u x, u, x) = true := by
  have T := F.tree
  have mf := mid_facts T hu hx
  have pin : ∀ y ∈ path ts u x, y ∈ pl := fun y hy => (T.the_way hu hx).inside (fun e he => ⟨(T.ties e he).1, (T.ties e he).2.1⟩) hu y hy
  have tri := fun {a b c : Nm} (ha : a ∈ pl) (hb : b ∈ pl) (hc : c ∈ pl) => (T.over ha hb hc).1
  have sy := fun {a b : Nm} (ha : a ∈ pl) (hb : b ∈ pl) => (T.dist_symm ha hb).1
  have onp := fun {m : Nm} (hm : m ∈ path ts u x) => (T.over hu hx (pin m hm)).2.1.mpr hm
  have hh := pin _ mf.hiM
  have oh := onp mf.hiM
  -- how far a place is from where its way meets the way
  have key : ∀ y ∈ pl, ∃ m ∈ path ts u x, dist ts m y ≤ dist ts u m ∧ dist ts m y ≤ dist ts m x ∧ dist ts u m + dist ts m x = dist ts u x := fun y hy => by
    obtain ⟨m, m1, m2, e1, e2, e3⟩ := T.meet hu hx hy
    have t1 := top u hu y hy
    have t2 := top y hy x hx
    have s1 := sy hy m2
    exact ⟨m, m1, by omega, by omega, e1⟩
  have fin : isPt pl ts (mpt pl ts u x) = true → dbl ts (mpt pl ts u x) u = dist ts u x * (mpt pl ts u x).2.2.2 → dbl ts (mpt pl ts u x) x = dist ts u x * (mpt pl ts u x).2.2.2 → (∀ y ∈ pl, dbl ts (mpt pl ts u x) y ≤ dist ts u x * (mpt pl ts u x).2.2.2) → shown pl ts (dist ts u x) (mpt pl ts u x, u, x) = true := fun h1 h2 h3 h4 => by
    unfold shown
    dsimp only
    rw [h1, decide_eq_true ⟨hu, hx, rfl, h2, h3, h4⟩]
    rfl
  have eh := sy hh hu
  by_cases c : 2 * dist ts u (hi ts u x) = dist ts u x
  · have em : mpt pl ts u x = (hi ts u x, hi ts u x, 0, 1) := by
      unfold mpt
      rw [if_pos c]
    rw [em] at fin ⊢
    refine fin ?_ ?_ ?_ fun y hy => ?_
    · unfold isPt
      rw [if_pos rfl, decide_eq_true hh]
      rfl
    · rw [dbl_place T]
      show 2 * dist ts (hi ts u x) u = dist ts u x * 1
      omega
    · rw [dbl_place T]
      show 2 * dist ts (hi ts u x) x = dist ts u x * 1
      omega
    · rw [dbl_place T]
      show 2 * dist ts (hi ts u x) y ≤ dist ts u x * 1
      obtain ⟨m, m1, k1, k2, k3⟩ := key y hy
      have m2 := pin m m1
      have t1 := tri hh hy m2
      have s1 := sy hh m2
      by_cases d : dist ts u m ≤ dist ts u (hi ts u x)
      · have := T.between hu hx m1 mf.hiM d
        omega
      · have := T.between hu hx mf.hiM m1 (by omega)
        omega
  · obtain ⟨k1, loE, loM, loL⟩ := mf.loE c
    have hl := pin _ loM
    have ol := onp loM
    have el := sy hl hu
    have ge := mf.ge
    have bt := T.between hu hx loM mf.hiM (by omega)
    obtain ⟨ks, _, _, hop⟩ := (T.the_way hu hx).hops
    obtain ⟨k, _, adj⟩ := hop (midK ts u x - 1) _ _ loE (by rw [Nat.sub_add_cancel k1]; exact mf.hiE)
    have ne := T.adj_ne adj
    have slh := sy hl hh
    -- near to one or the other
    have near : ∀ y ∈ pl, dist ts (lo ts u x) y ≤ dist ts u (lo ts u x) ∨ dist ts (hi ts u x) y ≤ dist ts u x - dist ts u (hi ts u x) := fun y hy => by
      obtain ⟨m, m1, k1, k2, k3⟩ := key y hy
      have m2 := pin m m1
      by_cases d : 2 * dist ts u m < dist ts u x
      · have h1 := (mf.low m m1 d).1
        have h2 := T.between hu hx m1 loM h1
        have t1 := tri hl hy m2
        have s1 := sy hl m2
        exact .inl (by omega)
      · have d2 : dist ts u x < 2 * dist ts u m := by
          by_cases e : 2 * dist ts u m = dist ts u x
          · have := mf.only m m1 e
            rw [this] at e
            exact absurd e c
          · omega
        have h1 := (mf.high m m1 d2).1
        have h2 := T.between hu hx mf.hiM m1 h1
        have t1 := tri hh hy m2
        exact .inr (by omega)
    by_cases c2 : pl.idxOf (lo ts u x) < pl.idxOf (hi ts u x)
    · obtain ⟨g1, g2, g3⟩ := halfP_is (dist ts u x - 2 * dist ts u (lo ts u x))
      have em : mpt pl ts u x = (lo ts u x, hi ts u x, halfP (dist ts u x - 2 * dist ts u (lo ts u x))) := by
        unfold mpt
        rw [if_neg c, if_pos c2]
      rw [em] at fin ⊢
      clear em
      generalize halfP (dist ts u x - 2 * dist ts u (lo ts u x)) = pq at g1 g2 g3 fin ⊢
      obtain ⟨PP, QQ⟩ := pq
      dsimp only at g1 g2 g3 fin
      have co := fun {y : Nm} => core (ts := ts) (a := lo ts u x) (b := hi ts u x) (y := y) g2 g1 rfl (by omega) (by omega)
      refine fin (isPt_tie T (fun e => ne e.symm) adj (by omega) g3 ?_ ?_ c2) (co.2.1 ⟨by omega, by omega⟩) (co.2.2 ⟨by omega, by omega⟩) fun y hy => co.1 ?_
      · rcases g2 with rfl | rfl <;> omega
      · rcases g2 with rfl | rfl <;> omega
      · rcases near y hy with z | z
        · exact .inl z
        · exact .inr (by omega)
    · obtain ⟨g1, g2, g3⟩ := halfP_is (2 * dist ts u (hi ts u x) - dist ts u x)
      have em : mpt pl ts u x = (hi ts u x, lo ts u x, halfP (2 * dist ts u (hi ts u x) - dist ts u x)) := by
        unfold mpt
        rw [if_neg c, if_neg c2]
      have lt2 : pl.idxOf (hi ts u x) < pl.idxOf (lo ts u x) := by
        have n1 : pl.idxOf (lo ts u x) ≠ pl.idxOf (hi ts u x) := fun e => by
          have h1 := (idx_at T.nodup hl).1
          rw [e, (idx_at T.nodup hh).1] at h1
          exact ne (SX.S_inj (Option.some.inj h1))
        omega
      rw [em] at fin ⊢
      clear em
      generalize halfP (2 * dist ts u (hi ts u x) - dist ts u x) = pq at g1 g2 g3 fin ⊢
      obtain ⟨PP, QQ⟩ := pq
      dsimp only at g1 g2 g3 fin
      have co := fun {y : Nm} => core (ts := ts) (a := hi ts u x) (b := lo ts u x) (D := dist ts u x) (A := dist ts u x - dist ts u (hi ts u x)) (y := y) g2 (by rw [g1]; congr 1; omega) rfl (by omega) (by omega)
      refine fin (isPt_tie T ne adj.symm (by omega) g3 ?_ ?_ lt2) (co.2.2 ⟨by omega, by omega⟩) (co.2.1 ⟨by omega, by omega⟩) fun y hy => co.1 ?_
      · rcases g2 with rfl | rfl <;> omega
      · rcases g2 with rfl | rfl <;> omega
      · rcases near y hy with z | z
        · exact .inr (by omega)
        · exact .inl z
end Far

namespace Far
open PySem PySem.Spec PyProof.Rows L2
open SX (S)
theorem pair_mem {pl : List Nm} {ts : List Tie} {i j : Nat} {x y : Nm} (hx : pl[i]? = some x) (hy : pl[j]? = some y) (ij : i < j) : (dist ts x y, x, y) ∈ pairsOf pl ts := by
  have il := (List.getElem?_eq_some_iff.mp hx).1
  have jl := (List.getElem?_eq_some_iff.mp hy).1
  unfold pairsOf prs
  refine List.mem_flatMap.mpr ⟨i, List.mem_range.mpr il, List.mem_of_getElem? (i := j - (i + 1)) (rowP_at hx ?_)⟩
  rw [show i + 1 + (j - (i + 1)) = j by omega, hy]
theorem top_ge (pl : List Nm) (ts : List Tie) : 0 ≤ (topOf pl ts).1 ∧ ∀ y ∈ pairsOf pl ts, y.1 ≤ (topOf pl ts).1 := by
  unfold topOf
  rcases topT_is (pairsOf pl ts) (0, pl.headD [], pl.headD []) with ⟨h1, h2⟩ | ⟨h1, _, h3⟩
  · rw [h1]
    exact ⟨Int.le_refl _, h2⟩
  · exact ⟨by have : (0 : Int) < _ := h1; omega, h3⟩
theorem top_max {pl : List Nm} {ts : List Tie} (F : Fine pl ts) {u v : Nm} (hu : u ∈ pl) (hv : v ∈ pl) : dist ts u v ≤ (topOf pl ts).1 := by
  obtain ⟨i, hi, ei⟩ := List.mem_iff_getElem.mp hu
  obtain ⟨j, hj, ej⟩ := List.mem_iff_getElem.mp hv
  have gi : pl[i]? = some u := by rw [List.getElem?_eq_getElem hi, ei]
  have gj : pl[j]? = some v := by rw [List.getElem?_eq_getElem hj, ej]
  obtain ⟨h0, h1⟩ := top_ge pl ts
  rcases Nat.lt_trichotomy i j with c | c | c
  · exact h1 _ (pair_mem gi gj c)
  · subst c
    have e : u = v := Option.some.inj (gi.symm.trans gj)
    rw [e, (F.tree.dist_self _).1]
    exact h0
  · rw [(F.tree.dist_symm hu hv).1]
    exact h1 _ (pair_mem gj gi c)
/-! ### the point amid a farthest pair: how far each place is from its farthest -/
theorem isPt_of {pl : List Nm} {ts : List Tie} (F : IsTree pl ts) {p : Pt} (h : isPt pl ts p = true) (ne : p.1 ≠ p.2.1) : 1 ≤ p.2.2.2 ∧ 0 < p.2.2.1 ∧ p.2.2.1 < dist ts p.1 p.2.1 * p.2.2.2 ∧ ∃ t ∈ ts, t.2.2 = dist ts p.1 p.2.1 := by
  unfold isPt at h
  rw [if_neg ne] at h
  by_cases c1 : p.2.2.2 < 1
  · rw [if_pos c1] at h
    cases h
  · rw [if_neg c1] at h
    by_cases c2 : ((Nat.gcd p.2.2.1.natAbs p.2.2.2.natAbs : Nat) : Int) ≠ 1
    · rw [if_pos c2] at h
      cases h
    · rw [if_neg c2] at h
      cases e : ts.find? (joins p.1 p.2.1) with
      | none =>
        rw [e] at h
        cases h
      | some t =>
        rw [e] at h
        have h : (decide (0 < p.2.2.1) && decide (p.2.2.1 < t.2.2 * p.2.2.2) && decide (pl.idxOf p.1 < pl.idxOf p.2.1)) = true := h
        rw [Bool.and_eq_true, Bool.and_eq_true, decide_eq_true_eq, decide_eq_true_eq] at h
        have m := List.mem_of_find?_eq_some e
        have el := tie_len F ne m (List.find?_some e)
        exact ⟨by omega, h.1.1, by rw [el]; exact h.1.2, t, m, el.symm⟩
/-- no shorter than over the point -/
theorem dbl_tri {pl : List Nm} {ts : List Tie} (F : IsTree pl ts) {a b : Nm} {P Q : Int} (ha : a ∈ pl) (hb : b ∈ pl) (hq : Q = 1 ∨ Q = 2) (p0 : 0 ≤ P) (p1 : P ≤ dist ts a b * Q) {y z : Nm} (hy : y ∈ pl) (hz : z ∈ pl) :
    2 * (dist ts y z * Q) ≤ dbl ts (a, b, P, Q) y + dbl ts (a, b, P, Q) z ∧ 0 ≤ dbl ts (a, b, P, Q) y := by
  have t1 := (F.over hy hz ha).1
  have t2 := (F.over hy hz hb).1
  have t3 := (F.over ha hz hb).1
  have t4 := (F.over hb hz ha).1
  have s1 := (F.dist_symm hy ha).1
  have s2 := (F.dist_symm hy hb).1
  have s3 := (F.dist_symm hb ha).1
  have n1 := (Way.nonneg (fun e he => (F.ties e he).2.2.1) (F.the_way ha hy)).1
  have n2 := (Way.nonneg (fun e he => (F.ties e he).2.2.1) (F.the_way hb hy)).1
  have e : ∀ y, dbl ts (a, b, P, Q) y = 2 * (if (dist ts b y + dist ts a b) * Q - P < dist ts a y * Q + P then (dist ts b y + dist ts a b) * Q - P else dist ts a y * Q + P) := fun y => rfl
  rw [e, e]
  rcases hq with rfl | rfl
  · constructor
    · split <;> split <;> omega
    · split <;> omega
  · constructor
    · split <;> split <;> omega
    · split <;> omega
theorem core2 {ts : List Tie} {a b : Nm} {P Q D A L N : Int} (hq : Q = 1 ∨ Q = 2) (hp : 2 * P = (D - 2 * A) * Q) (hL : dist ts a b = L) {y : Nm} (h : dist ts a y + (D - A) ≤ N ∨ dist ts b y + A + L ≤ N) : dbl ts (a, b, P, Q) y + D * Q ≤ 2 * (N * Q) := by
  have e : dbl ts (a, b, P, Q) y = 2 * (if (dist ts b y + L) * Q - P < dist ts a y * Q + P then (dist ts b y + L) * Q - P else dist ts a y * Q + P) := by
    unfold dbl mn2
    rw [← hL]
  rw [e]
  rcases hq with rfl | rfl
  · split <;> omega
  · split <;> omega
structure Mid (pl : List Nm) (ts : List Tie) (D : Int) (p : Pt) : Prop where
  m1 : p.1 ∈ pl
  m2 : p.2.1 ∈ pl
  q : p.2.2.2 = 1 ∨ p.2.2.2 = 2
  ok : PtOk 2 p
  pt : isPt pl ts p = true
  one : p.1 = p.2.1 → p.2.2.1 = 0 ∧ p.2.2.2 = 1
  tie : p.1 ≠ p.2.1 → 0 < p.2.2.1 ∧ p.2.2.1 < dist ts p.1 p.2.1 * p.2.2.2 ∧ ∃ t ∈ ts, t.2.2 = dist ts p.1 p.2.1
  near : ∀ y ∈ pl, dbl ts p y ≤ D * p.2.2.2
  reach : ∀ y ∈ pl, 2 * (rch pl ts y * p.2.2.2) = dbl ts p y + D * p.2.2.2
theorem mid_is {pl : List Nm} {ts : List Tie} (F : Fine pl ts) {u x : Nm} (hu : u ∈ pl) (hx : x ∈ pl) (top : ∀ y ∈ pl, ∀ z ∈ pl, dist ts y z ≤ dist ts u x) : Mid pl ts (dist ts u x) (mpt pl ts u x) := by
  have sh := mid_shown F hu hx top
  unfold shown at sh
  dsimp only at sh
  rw [Bool.and_eq_true, decide_eq_true_eq] at sh
  obtain ⟨hpt, _, _, _, _, _, near⟩ := sh
  obtain ⟨m1, m2⟩ := isPt_mem F.tree hpt
  have T := F.tree
  have mf := mid_facts T hu hx
  have pin : ∀ y ∈ path ts u x, y ∈ pl := fun y hy => (T.the_way hu hx).inside (fun e he => ⟨(T.ties e he).1, (T.ties e he).2.1⟩) hu y hy
  have tri := fun {a b c : Nm} (ha : a ∈ pl) (hb : b ∈ pl) (hc : c ∈ pl) => (T.over ha hb hc).1
  have sy := fun {a b : Nm} (ha : a ∈ pl) (hb : b ∈ pl) => (T.dist_symm ha hb).1
  have onp := fun {m : Nm} (hm : m ∈ path ts u x) => (T.over hu hx (pin m hm)).2.1.mpr hm
  have hh := pin _ mf.hiM
  have oh := onp mf.hiM
  have eh := sy hh hu
  -- the way to an end goes over the middle
  have over1 : ∀ y ∈ pl, ∀ l ∈ path ts u x, ∀ m ∈ path ts u x, dist ts u m ≤ dist ts u l → dist ts u m + dist ts m x = dist ts u x → dist ts y m + dist ts m x = dist ts y x → dist ts l y + dist ts l x ≤ dist ts y x := fun y hy l hl m hm le e1 e3 => by
    have lp := pin l hl
    have mp := pin m hm
    have b := T.between hu hx hm hl le
    have t1 := tri lp hy mp
    have s1 := sy lp mp
    have s2 := sy hy mp
    have ol := onp hl
    omega
  have over2 : ∀ y ∈ pl, ∀ l ∈ path ts u x, ∀ m ∈ path ts u x, dist ts u l ≤ dist ts u m → dist ts u m + dist ts m y = dist ts u y → dist ts l y + dist ts l u ≤ dist ts y u := fun y hy l hl m hm le e2 => by
    have lp := pin l hl
    have mp := pin m hm
    have b := T.between hu hx hl hm le
    have t1 := tri lp hy mp
    have s1 := sy lp hu
    have s2 := sy hy hu
    omega
  have fin : (mpt pl ts u x).2.2.2 = 1 ∨ (mpt pl ts u x).2.2.2 = 2 → ((mpt pl ts u x).1 = (mpt pl ts u x).2.1 → (mpt pl ts u x).2.2.1 = 0 ∧ (mpt pl ts u x).2.2.2 = 1) → (∀ y ∈ pl, ∃ z ∈ pl, dbl ts (mpt pl ts u x) y + dist ts u x * (mpt pl ts u x).2.2.2 ≤ 2 * (dist ts y z * (mpt pl ts u x).2.2.2)) → Mid pl ts (dist ts u x) (mpt pl ts u x) := fun hq hone far => by
    have ok := mpt_ok F hu hx
    have tie : (mpt pl ts u x).1 ≠ (mpt pl ts u x).2.1 → 0 < (mpt pl ts u x).2.2.1 ∧ (mpt pl ts u x).2.2.1 < dist ts (mpt pl ts u x).1 (mpt pl ts u x).2.1 * (mpt pl ts u x).2.2.2 ∧ ∃ t ∈ ts, t.2.2 = dist ts (mpt pl ts u x).1 (mpt pl ts u x).2.1 := fun ne => (isPt_of T hpt ne).2
    refine ⟨m1, m2, hq, ok, hpt, hone, tie, near, fun y hy => ?_⟩
    generalize mpt pl ts u x = p at m1 m2 hq hone far tie near
    obtain ⟨a, b, P, Q⟩ := p
    dsimp only at m1 m2 hq hone far tie near ⊢
    have pp : 0 ≤ P ∧ P ≤ dist ts a b * Q := by
      by_cases c : a = b
      · obtain ⟨h1, h2⟩ := hone c
        rw [h1, h2, ← c, (T.dist_self _).1]
        decide
      · obtain ⟨h1, h2, _⟩ := tie c
        exact ⟨by omega, by omega⟩
    obtain ⟨z, hz, ez⟩ := far y hy
    have up : ∀ w ∈ pl, dist ts y w ≤ dist ts y z := fun w hw => by
      have h1 := (dbl_tri T m1 m2 hq pp.1 pp.2 hy hw).1
      have h2 := near w hw
      rcases hq with rfl | rfl <;> omega
    have er : dist ts y z = rch pl ts y := mxG_is (List.mem_map.mpr ⟨z, hz, rfl⟩) fun w hw => by
      obtain ⟨v, hv, rfl⟩ := List.mem_map.mp hw
      exact up v hv
    have h1 := (dbl_tri T m1 m2 hq pp.1 pp.2 hy hz).1
    have h2 := near z hz
    rw [← er]
    omega
  by_cases c : 2 * dist ts u (hi ts u x) = dist ts u x
  · have em : mpt pl ts u x = (hi ts u x, hi ts u x, 0, 1) := by
      unfold mpt
      rw [if_pos c]
    rw [em] at fin ⊢
    refine fin (.inl rfl) (fun _ => ⟨rfl, rfl⟩) fun y hy => ?_
    rw [dbl_place T]
    show ∃ z ∈ pl, 2 * dist ts (hi ts u x) y + dist ts u x * 1 ≤ 2 * (dist ts y z * 1)
    obtain ⟨m, k1, k2, e1, e2, e3⟩ := T.meet hu hx hy
    by_cases d : dist ts u m ≤ dist ts u (hi ts u x)
    · have := over1 y hy _ mf.hiM m k1 d e1 e3
      exact ⟨x, hx, by omega⟩
    · have := over2 y hy _ mf.hiM m k1 (by omega) e2
      exact ⟨u, hu, by omega⟩
  · obtain ⟨k1, loE, loM, loL⟩ := mf.loE c
    have hl := pin _ loM
    have ol := onp loM
    have el := sy hl hu
    have ge := mf.ge
    have bt := T.between hu hx loM mf.hiM (by omega)
    have slh := sy hl hh
    have nel : lo ts u x ≠ hi ts u x := fun e => by
      rw [e] at loL
      omega
    have far : ∀ y ∈ pl, dist ts (lo ts u x) y + dist ts (lo ts u x) x ≤ dist ts y x ∨ dist ts (hi ts u x) y + dist ts (hi ts u x) u ≤ dist ts y u := fun y hy => by
      obtain ⟨m, j1, j2, e1, e2, e3⟩ := T.meet hu hx hy
      by_cases d : 2 * dist ts u m < dist ts u x
      · exact .inl (over1 y hy _ loM m j1 (mf.low m j1 d).1 e1 e3)
      · have d2 : dist ts u x < 2 * dist ts u m := by
          by_cases e : 2 * dist ts u m = dist ts u x
          · have := mf.only m j1 e
            rw [this] at e
            exact absurd e c
          · omega
        exact .inr (over2 y hy _ mf.hiM m j1 (mf.high m j1 d2).1 e2)
    by_cases c2 : pl.idxOf (lo ts u x) < pl.idxOf (hi ts u x)
    · obtain ⟨g1, g2, g3⟩ := halfP_is (dist ts u x - 2 * dist ts u (lo ts u x))
      have em : mpt pl ts u x = (lo ts u x, hi ts u x, halfP (dist ts u x - 2 * dist ts u (lo ts u x))) := by
        unfold mpt
        rw [if_neg c, if_pos c2]
      rw [em] at fin ⊢
      clear em
      generalize halfP (dist ts u x - 2 * dist ts u (lo ts u x)) = pq at g1 g2 g3 fin ⊢
      obtain ⟨PP, QQ⟩ := pq
      dsimp only at g1 g2 g3 fin
      refine fin g2 (fun e => absurd e nel) fun y hy => ?_
      rcases far y hy with z | z
      · exact ⟨x, hx, core2 (ts := ts) (a := lo ts u x) (b := hi ts u x) g2 g1 rfl (.inl (by omega))⟩
      · exact ⟨u, hu, core2 (ts := ts) (a := lo ts u x) (b := hi ts u x) g2 g1 rfl (.inr (by omega))⟩
    · obtain ⟨g1, g2, g3⟩ := halfP_is (2 * dist ts u (hi ts u x) - dist ts u x)
      have em : mpt pl ts u x = (hi ts u x, lo ts u x, halfP (2 * dist ts u (hi ts u x) - dist ts u x)) := by
        unfold mpt
        rw [if_neg c, if_neg c2]
      rw [em] at fin ⊢
      clear em
      generalize halfP (2 * dist ts u (hi ts u x) - dist ts u x) = pq at g1 g2 g3 fin ⊢
      obtain ⟨PP, QQ⟩ := pq
      dsimp only at g1 g2 g3 fin
      have g1' : 2 * PP = (dist ts u x - 2 * (dist ts u x - dist ts u (hi ts u x))) * QQ := by rw [g1]; congr 1; omega
      refine fin g2 (fun e => absurd e.symm nel) fun y hy => ?_
      rcases far y hy with z | z
      · exact ⟨x, hx, core2 (ts := ts) (a := hi ts u x) (b := lo ts u x) (D := dist ts u x) (A := dist ts u x - dist ts u (hi ts u x)) g2 g1' rfl (.inr (by omega))⟩
      · exact ⟨u, hu, core2 (ts := ts) (a := hi ts u x) (b := lo ts u x) (D := dist ts u x) (A := dist ts u x - dist ts u (hi ts u x)) g2 g1' rfl (.inl (by omega))⟩
section
variable {pl : List Nm} {ts : List Tie} {D : Int} {p : Pt}
theorem Mid.pp (M : Mid pl ts D p) (T : IsTree pl ts) : 0 ≤ p.2.2.1 ∧ p.2.2.1 ≤ dist ts p.1 p.2.1 * p.2.2.2 := by
  by_cases c : p.1 = p.2.1
  · obtain ⟨h1, h2⟩ := M.one c
    rw [h1, h2, ← c, (T.dist_self _).1]
    decide
  · obtain ⟨h1, h2, _⟩ := M.tie c
    exact ⟨by omega, by omega⟩
/-- each pair that is as far apart is shown by the point -/
theorem Mid.shows (M : Mid pl ts D p) (T : IsTree pl ts) {y z : Nm} (hy : y ∈ pl) (hz : z ∈ pl) (e : dist ts y z = D) : shown pl ts D (p, y, z) = true := by
  have pp := M.pp T
  have h1 := (dbl_tri T M.m1 M.m2 M.q pp.1 pp.2 hy hz).1
  have h2 := M.near y hy
  have h3 := M.near z hz
  rw [e] at h1
  have h1 : 2 * (D * p.2.2.2) ≤ dbl ts p y + dbl ts p z := h1
  unfold shown
  dsimp only
  rw [M.pt, Bool.true_and, decide_eq_true_eq]
  exact ⟨hy, hz, e, by omega, by omega, M.near⟩
theorem Mid.shows_no (M : Mid pl ts D p) {y z : Nm} {n : Int} (e : dist ts y z = D) (ne : n ≠ D) : shown pl ts n (p, y, z) = false := by
  unfold shown
  dsimp only
  rw [decide_eq_false (fun h => ne (h.2.2.1.symm.trans e)), Bool.and_false]
theorem mn_in {l : List Int} (h : l ≠ []) : mnG l ∈ l ∧ ∀ y ∈ l, mnG l ≤ y := mnG_in h
/-- the place with the least, where the middle is a place -/
theorem Mid.place (M : Mid pl ts D p) (T : IsTree pl ts) (c : p.1 = p.2.1) : 2 * mnG (pl.map (rch pl ts)) = D ∧ ∀ y ∈ pl, rch pl ts y = mnG (pl.map (rch pl ts)) ↔ y = p.1 := by
  obtain ⟨a, b, P, Q⟩ := p
  obtain ⟨h1, h2⟩ := M.one c
  dsimp only at c h1 h2
  subst c h1 h2
  have m1 : a ∈ pl := M.m1
  have re : ∀ y ∈ pl, 2 * rch pl ts y = 2 * dist ts a y + D := fun y hy => by
    have h : 2 * (rch pl ts y * 1) = dbl ts (a, a, 0, 1) y + D * 1 := M.reach y hy
    rw [dbl_place T] at h
    omega
  have ra := re a m1
  rw [(T.dist_self _).1] at ra
  have ne : pl.map (rch pl ts) ≠ [] := by
    intro z
    rw [List.map_eq_nil_iff] at z
    rw [z] at m1
    cases m1
  have em : rch pl ts a = mnG (pl.map (rch pl ts)) := mnG_is (List.mem_map.mpr ⟨a, m1, rfl⟩) fun y hy => by
    obtain ⟨v, hv, rfl⟩ := List.mem_map.mp hy
    have h1 := re v hv
    have h2 := (Way.nonneg (fun e he => (T.ties e he).2.2.1) (T.the_way m1 hv)).1
    omega
  rw [← em]
  refine ⟨by omega, fun y hy => ⟨fun e => ?_, fun e => by rw [show y = a from e]⟩⟩
  show y = a
  by_cases k : y = a
  · exact k
  · have h1 := re y hy
    have h2 := T.pos m1 hy (fun e => k e.symm)
    omega
theorem Mid.least (M : Mid pl ts D p) (T : IsTree pl ts) : D ≤ 2 * mnG (pl.map (rch pl ts)) := by
  have m1 : p.1 ∈ pl := M.m1
  have ne : pl.map (rch pl ts) ≠ [] := by
    intro z
    rw [List.map_eq_nil_iff] at z
    rw [z] at m1
    cases m1
  obtain ⟨y, hy, e⟩ := List.mem_map.mp (mn_in ne).1
  have pp := M.pp T
  have h1 := (dbl_tri T M.m1 M.m2 M.q pp.1 pp.2 hy hy).2
  have h1 : 0 ≤ dbl ts p y := h1
  have h2 := M.reach y hy
  rw [← e]
  rcases M.q with q | q <;> rw [q] at h2 <;> omega
/-- where it is on a tie, the places with the least are its ends -/
theorem Mid.ends (M : Mid pl ts D p) (T : IsTree pl ts) (c : p.1 ≠ p.2.1) : (∀ y ∈ pl, rch pl ts y = mnG (pl.map (rch pl ts)) → y = p.1 ∨ y = p.2.1) ∧ 2 * mnG (pl.map (rch pl ts)) ≤ dist ts p.1 p.2.1 + D := by
  obtain ⟨a, b, P, Q⟩ := p
  obtain ⟨p0, p1, _⟩ := M.tie c
  have hq := M.q
  have m1 := M.m1
  have m2 := M.m2
  have re := M.reach
  dsimp only at c p0 p1 hq m1 m2 re
  have ne : pl.map (rch pl ts) ≠ [] := by
    intro z
    rw [List.map_eq_nil_iff] at z
    rw [z] at m1
    cases m1
  have low := (mn_in ne).2
  have la := low _ (List.mem_map.mpr ⟨a, m1, rfl⟩)
  have lb := low _ (List.mem_map.mpr ⟨b, m2, rfl⟩)
  have ra := re a m1
  have rb := re b m2
  have e : ∀ y, dbl ts (a, b, P, Q) y = 2 * (if (dist ts b y + dist ts a b) * Q - P < dist ts a y * Q + P then (dist ts b y + dist ts a b) * Q - P else dist ts a y * Q + P) := fun y => rfl
  rw [e, (T.dist_self a).1] at ra
  rw [e, (T.dist_self b).1] at rb
  have s := (T.dist_symm m1 m2).1
  refine ⟨fun y hy ey => ?_, ?_⟩
  · by_cases k1 : y = a
    · exact .inl k1
    by_cases k2 : y = b
    · exact .inr k2
    exfalso
    have ry := re y hy
    rw [e] at ry
    have n1 := T.pos m1 hy (fun e => k1 e.symm)
    have n2 := T.pos m2 hy (fun e => k2 e.symm)
    rcases hq with rfl | rfl
    · split at ry <;> split at ra <;> split at rb <;> omega
    · split at ry <;> split at ra <;> split at rb <;> omega
  · show 2 * mnG (pl.map (rch pl ts)) ≤ dist ts a b + D
    rcases hq with rfl | rfl
    · split at ra <;> split at rb <;> omega
    · split at ra <;> split at rb <;> omega
end
end Far

namespace Far
open PySem PySem.Spec PyProof.Rows L2
open C8 (pss_cut tCut)
open SX (S)
open RZ (ItzT iZipA pi_zipA)
theorem slTK {X : Cx} {K : PySem.W.Frag} (e : X.K = K := by rfl) : SlR X (rSlT K) := by
  subst e
  exact sl_tup
theorem notInK {X : Cx} {K : PySem.W.Frag} (e : X.K = K := by rfl) : OpR X (compareOp .NotIn) (rIn K true) := by
  subst e
  exact op_notIn_seq
theorem cat_any0 {K : PySem.W.Frag} {H : Hp} {a b : Addr} {xs ys : List V} {Q : VK} (ha : H a = some (.tup xs)) (hb : H b = some (.tup ys)) (l : xs.length + ys.length ≤ sizeLine) (k : ∀ p H', Same H H' → H' p = some (.tup (xs ++ ys)) → Q (.ref p) H') : rCatA K (.ref a) (.ref b) H Q :=
  ⟨a, b, xs, ys, rfl, rfl, SqT.of ha, SqT.of hb, l, fun e => k b H (Same.refl _) (by rw [e]; exact hb), fun _ e => k a H (Same.refl _) (by rw [e, List.append_nil]; exact ha), fun _ _ p n => k p _ (same_new (Same.refl _) n) upd_same⟩
/-- the farthest pair, the point amid it, and the half -/
structure Best (pl : List Nm) (ts : List Tie) (D : Int) (u x : Nm) (p : Pt) : Prop where
  top : topOf pl ts = (D, u, x)
  hu : u ∈ pl
  hx : x ∈ pl
  ed : dist ts u x = D
  D0 : 0 ≤ D
  mid : Mid pl ts D p
  mD : middleD pl ts = .tuple [ptD p, .tuple [.int (halfP D).1, .int (halfP D).2]]
  fD : farD pl ts = triD (D, u, x)
  all : ∀ z ∈ farOf pl ts, z.1 = D ∧ z.2.1 ∈ pl ∧ z.2.2 ∈ pl ∧ dist ts z.2.1 z.2.2 = D
theorem best_of {pl : List Nm} {ts : List Tie} (F : Fine pl ts) : ∃ D u x p, Best pl ts D u x p := by
  obtain ⟨tu, tx, td⟩ := top_in F
  obtain ⟨f1, f2⟩ := farD_top F
  have mx := fun {y z : Nm} (hy : y ∈ pl) (hz : z ∈ pl) => top_max F hy hz
  have g0 := (top_ge pl ts).1
  have e0 : topT (0, pl.headD [], pl.headD []) (pairsOf pl ts) = topOf pl ts := rfl
  rw [e0] at tu tx td f1 f2
  generalize ht : topOf pl ts = T at tu tx td f1 f2 mx g0
  obtain ⟨D, u, x⟩ := T
  dsimp only at tu tx td mx g0
  have M := mid_is F tu tx fun y hy z hz => by rw [← td]; exact mx hy hz
  rw [← td] at M
  refine ⟨D, u, x, mpt pl ts u x, ht, tu, tx, td.symm, g0, M, ?_, f1, fun z hz => ?_⟩
  · unfold middleD
    rw [ht]
    show PyData.tuple [pointD pl ts u x, halfD D] = _
    rw [mpt_D, halfP_D]
  · obtain ⟨h1, h2⟩ := List.mem_filter.mp hz
    obtain ⟨m1, m2, m3⟩ := mem_pairs h1
    have ne : pairsOf pl ts ≠ [] := fun e => by
      rw [e] at h1
      cases h1
    have eb : D = best (pairsOf pl ts) := f2 ne
    have e1 : z.1 = D := by rw [eb]; exact beq_iff_eq.mp h2
    exact ⟨e1, m1, m2, by rw [← m3]; exact e1⟩
theorem dt_ii {H : Hp} {v : V} {a b : Int} (h : Dt H v (.tuple [.int a, .int b])) : ∃ r : Addr, v = .ref r ∧ H r = some (.tup [.int a, .int b]) := by
  obtain ⟨r, ys, rfl, hr, hs⟩ := dt_tup h fun _ => ⟨.int a, by simp, fun l z => nomatch z⟩
  cases hs with
  | cons h1 hr' =>
    cases hr' with
    | cons h2 hr' =>
      cases hr'
      cases h1
      cases h2
      exact ⟨r, rfl, hr⟩
/-- what middle_point tells, taken apart -/
theorem dt_mid {H : Hp} {v : V} {p : Pt} {a b : Int} (h : Dt H v (.tuple [ptD p, .tuple [.int a, .int b]])) : ∃ (g r : Addr) (y : V), v = .ref g ∧ H g = some (.tup [y, .ref r]) ∧ Dt H y (ptD p) ∧ H r = some (.tup [.int a, .int b]) := by
  obtain ⟨g, y, w, rfl, hg, hy, hw⟩ := dt_pair h fun l z => nomatch z
  obtain ⟨r, rfl, hr⟩ := dt_ii hw
  exact ⟨g, r, y, rfl, hg, hy, hr⟩
def nnD (z : Nm × Nm) : PyData := .tuple [strD z.1, strD z.2]
abbrev s_law_papers_right : Stmt := topS 32
abbrev N_law_papers_right : List Str := ["tree", "point", "half", "most", "one", "other", "pair", "number"]
theorem sc_law_papers_right : FnScope N_law_papers_right ["tree"] (defScope s_law_papers_right) := ⟨rfl, rfl, rfl, by decide +kernel, rfl, by decide +kernel, by decide +kernel⟩
section
variable {P : Program} {w : World} {K : PySem.W.Frag} {mg : Str → Option Value} {base : Heap}
def spYes : Sp := fun vs H Q _ => ∃ (v : V) (pl : List Nm) (ts : List Tie), vs = [v] ∧ Dt H v (treeD pl ts) ∧ PlZ H v pl ∧ Fine pl ts ∧ ∀ H' : Hp, Same H H' → Q (.bl true) H'
theorem ok_papers_right {f : Addr} {fd : FuncData} (F : Fun K "_law_papers_right" "_law_papers_right" s_law_papers_right f fd) (Cmiddle_point : Cal P w K mg base 6 "middle_point" spMp) (Cfarthest : Cal P w K mg base 5 "farthest" spFarthest) (Call_farthest : Cal P w K mg base 6 "all_farthest" spAllFarthest) (Cpaper_shown : Cal P w K mg base 5 "paper_shown" spShown) : FnOk P w K mg base CX0 7 f fd ["tree"] spYes := by
  refine F.ok sc_law_papers_right (fun vs H Q E h => ?_) (fun cdv A outer s H vs Q E hr h => ?_)
  · obtain ⟨v, pl, ts, rfl, _⟩ := h
    rfl
  · obtain ⟨v, pl, ts, rfl, hd, hz, fine, q⟩ := h
    obtain ⟨D, u, x, p, B⟩ := best_of fine
    have pl1 := fine.len
    have T := fine.tree
    have M := B.mid
    have hb : -(2 ^ 64) < p.2.2.2 ∧ p.2.2.2 < 2 ^ 64 := by
      rcases M.q with e | e <;> rw [e] <;> decide
    obtain ⟨g1, g2, g3⟩ := halfP_is D
    refine ⟨_, (pss_cons (ps_asg (pe_c Cmiddle_point hr (by decide) rfl (pa_cons (pv 0) pa_nil)) (pg_tup rfl (pgs_cons (pg_name (i := 1) sc_law_papers_right.nd rfl (.inl rfl)) (pgs_cons (pg_name (i := 2) sc_law_papers_right.nd rfl (.inl rfl)) pgs_nil))))
      (pss_cons (ps_set (i := 3) sc_law_papers_right.nd rfl (.inl rfl) (pe_ix ix_tup (pe_c Cfarthest hr (by decide) rfl (pa_cons (pv 0) pa_nil)) pe_int (fun _ _ => rfl)))
      (pss_cut (ps_if (pt_cmpR op_ne (pe_op op_mul pe_int (pe_ix ix_tup (pv 2) pe_int (fun _ _ => rfl))) (pe_op op_mul (pv 3) (pe_ix ix_tup (pv 2) pe_int (fun _ _ => rfl))) (nomark _))
        (pss_one (ps_ret pe_bl))
        pss_nil)
      (pss_cut (ps_for PassesOwn.never rfl (pi_tup (pe_op op_catA (pe_c Call_farthest hr (by decide) rfl (pa_cons (pv 0) pa_nil)) (pe_tup (pa_cons (pe_slice sl_tup (pe_c Cfarthest hr (by decide) rfl (pa_cons (pv 0) pa_nil)) (po_some pe_int) po_none) pa_nil)))) (pg_tup rfl (pgs_cons (pg_name (i := 4) sc_law_papers_right.nd rfl (.inl rfl)) (pgs_cons (pg_name (i := 5) sc_law_papers_right.nd rfl (.inl rfl)) pgs_nil)))
        (pss_one (ps_for PassesOwn.never rfl (pi_tup (pe_tup (pa_cons (pe_tup (pa_cons (pv 4) (pa_cons (pv 5) pa_nil))) (pa_cons (pe_tup (pa_cons (pv 5) (pa_cons (pv 4) pa_nil))) pa_nil)))) (pg_name (i := 6) sc_law_papers_right.nd rfl (.inl rfl))
          (pss_cut (ps_if (pt_cmpR op_isnot_bl (pe_c Cpaper_shown hr (by decide) rfl (pa_cons (pv 0) (pa_cons (pv 3) (pa_cons (pe_tup (pa_cons (pv 1) (pa_cons (pv 6) pa_nil))) pa_nil)))) pe_bl (nomark _))
            (pss_one (ps_ret pe_bl))
            pss_nil)
          (pss_one (ps_for PassesOwn.never rfl (pi_tup (pe_tup (pa_cons (pe_op op_sub (pv 3) pe_int) (pa_cons (pe_op op_add (pv 3) pe_int) (pa_cons (pe_op op_add (pe_op op_mul pe_int (pv 3)) pe_int) pa_nil))))) (pg_name (i := 7) sc_law_papers_right.nd rfl (.inl rfl))
            (pss_one (ps_if (pt_cmpR op_isnot_bl (pe_c Cpaper_shown hr (by decide) rfl (pa_cons (pv 0) (pa_cons (pv 7) (pa_cons (pe_tup (pa_cons (pv 1) (pa_cons (pv 6) pa_nil))) pa_nil)))) pe_bl (nomark _))
              (pss_one (ps_ret pe_bl))
              pss_nil))))))))
      (pss_one (ps_ret pe_bl)))))), ?_⟩
    refine ⟨_, rfl, v, pl, ts, rfl, hd, hz, fine, fun H1 r S1 hr1 => ?_⟩
    rw [B.mD] at hr1
    obtain ⟨g, hf, y, rfl, hg, hy, hhf⟩ := dt_mid hr1
    refine ⟨g, _, rfl, SqT.of hg, rfl, _, _, rfl, _, _, rfl, rfl, ?_⟩
    refine ⟨_, rfl, v, pl, ts, rfl, Dt.keep (TK.of S1) hd, fine, fun H2 r2 S2 hr2 => ?_⟩
    rw [B.fD] at hr2
    obtain ⟨t2, rfl, ht2⟩ := dt_tri hr2
    refine ⟨t2, _, 0, .int D, rfl, rfl, SqT.of ht2, atI_nat (j := 0) rfl, ?_⟩
    have hhf2 := S2 _ _ hhf
    have S02 := S1.trans S2
    refine ⟨fun σ' H' => σ' = [some v, some y, some (.ref hf), some (.int D), none, none, none, none] ∧ H2 = H', ?_, fun σ' H' hM => ?_⟩
    · refine ⟨_, rfl, hf, _, 0, _, rfl, rfl, SqT.of hhf2, atI_nat (j := 0) rfl, _, _, rfl, rfl, .inl ⟨by decide, by decide⟩, ?_⟩
      refine ⟨_, rfl, _, rfl, hf, _, 1, _, rfl, rfl, SqT.of hhf2, atI_nat (j := 1) rfl, _, _, rfl, rfl, .inr (by rcases g2 with e | e <;> rw [e] <;> decide), rfl, _, rfl, ?_⟩
      refine iteF' ?_ ⟨rfl, rfl⟩
      show (!decide (V.int (2 * (halfP D).1) = V.int (D * (halfP D).2))) = false
      rw [g1, decide_eq_true rfl]
      rfl
    obtain ⟨rfl, rfl⟩ := hM
    refine ⟨fun σ' H' => Same H2 H', ?_, fun σ' H' hM => q H' (S02.trans hM)⟩
    refine ⟨_, rfl, v, pl, ts, rfl, Dt.keep (TK.of S02) hd, fine, fun H3 r3 S3 hr3 => ?_⟩
    refine ⟨_, rfl, v, pl, ts, rfl, Dt.keep (TK.of (S02.trans S3)) hd, fine, fun H4 r4 S4 hr4 => ?_⟩
    rw [B.fD] at hr4
    obtain ⟨t4, rfl, ht4⟩ := dt_tri hr4
    have S34 := S3.trans S4
    refine ⟨1, rfl, t4, _, rfl, SqT.of ht4, (by show ¬ (HT.sIx 3 0 (some 1) = 0 ∧ HT.sIx 3 3 none = 3); decide), fun c nc => ?_⟩
    rw [show cutV [V.int (D, u, x).1, .str (S (D, u, x).2.1), .str (S (D, u, x).2.2)] (some 1) none = [.str (S u), .str (S x)] from rfl]
    refine ⟨(by show 1 ≤ sizeLine; decide), fun e ne => ?_⟩
    have hr4' := Dt.keep (TK.of S4) hr3
    unfold allD at hr4'
    obtain ⟨t3, as, rfl, ht3, has⟩ := dt_tup hr4' fun ne => by
      cases hfar : farOf pl ts with
      | nil => rw [hfar] at ne; exact absurd rfl ne
      | cons z r => exact ⟨.tuple [.str (S z.2.1), .str (S z.2.2)], by simp, fun l q => nomatch q⟩
    have sce := same_new (o := .tup [.ref c]) (same_new (o := .tup [.str (S u), .str (S x)]) (Same.refl H4) nc) ne
    have hpc : Dt (upd (upd H4 c (.tup [.str (S u), .str (S x)])) e (.tup [.ref c])) (.ref c) (nnD (u, x)) := .tup ((TK.new ne).tup _ _ upd_same) (.cons (.str _) (.cons (.str _) .nil))
    have hpe : (upd (upd H4 c (.tup [.str (S u), .str (S x)])) e (.tup [.ref c])) e = some (.tup [.ref c]) := upd_same
    generalize upd (upd H4 c (.tup [.str (S u), .str (S x)])) e (.tup [.ref c]) = H5 at sce hpc hpe
    have al := DtAll.len has
    rw [List.length_map] at al
    have fl : (farOf pl ts).length ≤ 1000 * 1000 := by
      refine Nat.le_trans (List.length_filter_le _ _) ?_
      exact Nat.le_trans (prs_len pl ts _) (Nat.mul_le_mul pl1 pl1)
    refine cat_any0 (sce _ _ ht3) hpe (by rw [al]; exact Nat.le_of_lt (szM (by show (farOf pl ts).length + 1 ≤ 10000000; omega))) fun pp H6 S6 hpp => ?_
    have hall : DtAll H6 (as ++ [V.ref c]) (((farOf pl ts).map fun z => (z.2.1, z.2.2)).map nnD ++ [nnD (u, x)]) := by
      refine DtAll.app (DtAll.keep ((TK.of sce).trans (TK.of S6)) ?_) (.cons (Dt.keep (TK.of S6) hpc) .nil)
      rw [List.map_map]
      exact has
    have S36 := S34.trans (sce.trans S6)
    refine ⟨pp, rfl, ⟨_, SqT.of hpp⟩, for_tup (K := K) (a := pp) (xs := as ++ [V.ref c]) (fun i σ' H' => ∃ x4 x5 x6 x7 : Option V, σ' = [some v, some y, some (.ref hf), some (.int D), x4, x5, x6, x7] ∧ Same H6 H') ⟨_, _, _, _, rfl, Same.refl _⟩ (fun i σ' H' _ hP => by obtain ⟨_, _, _, _, _, s⟩ := hP; exact SqT.of (s _ _ hpp)) (fun i w' σ' H7 hi hP => ?_) (fun σ' H' hP => by obtain ⟨_, _, _, _, _, s⟩ := hP; exact S36.trans s)⟩
    obtain ⟨x4, x5, x6, x7, rfl, S7⟩ := hP
    obtain ⟨dd, hdd, hw'⟩ := DtAll.get (DtAll.keep (TK.of S7) hall) hi
    obtain ⟨⟨a', b'⟩, rfl, ma, mb, eab⟩ : ∃ z : Nm × Nm, dd = nnD z ∧ z.1 ∈ pl ∧ z.2 ∈ pl ∧ dist ts z.1 z.2 = D := by
      have := List.mem_of_getElem? hdd
      rcases List.mem_append.mp this with h | h
      · obtain ⟨z, hz, rfl⟩ := List.mem_map.mp h
        obtain ⟨t, ht, rfl⟩ := List.mem_map.mp hz
        obtain ⟨_, k2, k3, k4⟩ := B.all t ht
        exact ⟨_, rfl, k2, k3, k4⟩
      · exact ⟨(u, x), List.mem_singleton.mp h, B.hu, B.hx, B.ed⟩
    dsimp only at ma mb eab
    obtain ⟨e7, rfl, he7⟩ := dt_names (pl := [a', b']) hw'
    refine ⟨e7, _, rfl, he7.sq, rfl, _, _, rfl, _, _, rfl, rfl, ?_⟩
    have na := fine.ok _ ma
    have nb := fine.ok _ mb
    have eba : dist ts b' a' = D := by rw [(T.dist_symm mb ma).1]; exact eab
    refine ⟨_, rfl, _, rfl, (by show 2 ≤ sizeLine; decide), fun e1 ne1 => ?_⟩
    refine ⟨_, rfl, _, rfl, (by show 2 ≤ sizeLine; decide), fun e2 ne2 => ⟨(by show 2 ≤ sizeLine; decide), fun e3 ne3 => ?_⟩⟩
    have sss := same_new (o := .tup [.ref e1, .ref e2]) (same_new (o := .tup [.str (S b'), .str (S a')]) (same_new (o := .tup [.str (S a'), .str (S b')]) (Same.refl H7) ne1) ne2) ne3
    have he3 : (upd (upd (upd H7 e1 (.tup [.str (S a'), .str (S b')])) e2 (.tup [.str (S b'), .str (S a')])) e3 (.tup [.ref e1, .ref e2])) e3 = some (.tup [.ref e1, .ref e2]) := upd_same
    have q1 : Dt (upd (upd (upd H7 e1 (.tup [.str (S a'), .str (S b')])) e2 (.tup [.str (S b'), .str (S a')])) e3 (.tup [.ref e1, .ref e2])) (.ref e1) (nnD (a', b')) := .tup (((TK.new ne2).trans (TK.new ne3)).tup _ _ upd_same) (.cons (.str _) (.cons (.str _) .nil))
    have q2 : Dt (upd (upd (upd H7 e1 (.tup [.str (S a'), .str (S b')])) e2 (.tup [.str (S b'), .str (S a')])) e3 (.tup [.ref e1, .ref e2])) (.ref e2) (nnD (b', a')) := .tup ((TK.new ne3).tup _ _ upd_same) (.cons (.str _) (.cons (.str _) .nil))
    generalize upd (upd (upd H7 e1 (.tup [.str (S a'), .str (S b')])) e2 (.tup [.str (S b'), .str (S a')])) e3 (.tup [.ref e1, .ref e2]) = H8 at sss he3 q1 q2
    refine ⟨e3, rfl, ⟨_, SqT.of he3⟩, for_tup (K := K) (a := e3) (xs := [V.ref e1, .ref e2]) (fun i σ' H' => ∃ x6 x7 : Option V, σ' = [some v, some y, some (.ref hf), some (.int D), some (.str (S a')), some (.str (S b')), x6, x7] ∧ Same H8 H') ⟨_, _, rfl, Same.refl _⟩ (fun i σ' H' _ hP => by obtain ⟨_, _, _, s⟩ := hP; exact SqT.of (s _ _ he3)) (fun i w' σ' H9 hi hP => ?_) (fun σ' H' hP => by obtain ⟨_, _, rfl, s⟩ := hP; exact ⟨_, _, _, _, rfl, S7.trans (sss.trans s)⟩)⟩
    obtain ⟨x6, x7, rfl, S9⟩ := hP
    obtain ⟨c1, c2, hwd, n1, n2, m1, m2, ec⟩ : ∃ c1 c2 : Nm, Dt H9 w' (nnD (c1, c2)) ∧ NameOk c1 ∧ NameOk c2 ∧ c1 ∈ pl ∧ c2 ∈ pl ∧ dist ts c1 c2 = D := by
      match i, hi with
      | 0, hi =>
        have e : w' = .ref e1 := (Option.some.inj hi).symm
        rw [e]
        exact ⟨a', b', Dt.keep (TK.of S9) q1, na, nb, ma, mb, eab⟩
      | 1, hi =>
        have e : w' = .ref e2 := (Option.some.inj hi).symm
        rw [e]
        exact ⟨b', a', Dt.keep (TK.of S9) q2, nb, na, mb, ma, eba⟩
    have S29 := S36.trans (S7.trans (sss.trans S9))
    have S09 := S02.trans S29
    have hy9 := Dt.keep (TK.of (S2.trans S29)) hy
    -- the paper
    refine ⟨fun σ' H' => σ' = [some v, some y, some (.ref hf), some (.int D), some (.str (S a')), some (.str (S b')), some w', x7] ∧ Same H9 H', ?_, fun σ' H10 hM => ?_⟩
    · refine ⟨_, rfl, _, rfl, _, rfl, _, rfl, (by show 2 ≤ sizeLine; decide), fun k nk => ?_⟩
      have sk := same_new (o := .tup [y, w']) (Same.refl H9) nk
      refine ⟨v, .ref k, D, pl, ts, (p, c1, c2), rfl, Dt.keep (TK.of (S09.trans sk)) hd, hz.keep (TK.of (S09.trans sk)), fine, .tup upd_same (.cons (Dt.keep (TK.new nk) hy9) (.cons (Dt.keep (TK.new nk) hwd) .nil)), M.ok.1, M.ok.2.1, hb, fun H' S' => ⟨_, _, rfl, rfl, _, rfl, ?_⟩⟩
      rw [M.shows T m1 m2 ec]
      exact iteF' rfl ⟨rfl, sk.trans S'⟩
    obtain ⟨rfl, S10⟩ := hM
    -- no other number
    have S010 := S09.trans S10
    refine ⟨_, rfl, _, _, rfl, rfl, _, rfl, _, _, rfl, rfl, _, rfl, _, _, rfl, rfl, .inl ⟨by decide, by decide⟩, _, _, rfl, rfl, (by show 3 ≤ sizeLine; decide), fun k nk => ?_⟩
    have sk := same_new (o := .tup [.int (D - 1), .int (D + 1), .int (2 * D + 1)]) (Same.refl H10) nk
    have hk : (upd H10 k (.tup [.int (D - 1), .int (D + 1), .int (2 * D + 1)])) k = some (.tup [.int (D - 1), .int (D + 1), .int (2 * D + 1)]) := upd_same
    generalize upd H10 k (.tup [.int (D - 1), .int (D + 1), .int (2 * D + 1)]) = H11 at sk hk
    refine ⟨k, rfl, ⟨_, SqT.of hk⟩, for_tup (K := K) (a := k) (xs := [V.int (D - 1), .int (D + 1), .int (2 * D + 1)]) (fun i σ' H' => ∃ x7 : Option V, σ' = [some v, some y, some (.ref hf), some (.int D), some (.str (S a')), some (.str (S b')), some w', x7] ∧ Same H11 H') ⟨_, rfl, Same.refl _⟩ (fun i σ' H' _ hP => by obtain ⟨_, _, s⟩ := hP; exact SqT.of (s _ _ hk)) (fun i n' σ' H12 hi hP => ?_) (fun σ' H' hP => by obtain ⟨_, rfl, s⟩ := hP; exact ⟨_, _, rfl, S9.trans (S10.trans (sk.trans s))⟩)⟩
    obtain ⟨x7, rfl, S12⟩ := hP
    have D0 := B.D0
    obtain ⟨n, rfl, nn⟩ : ∃ n : Int, n' = .int n ∧ n ≠ D := by
      have := List.mem_of_getElem? hi
      simp only [List.mem_cons, List.not_mem_nil, or_false] at this
      rcases this with e | e | e
      · exact ⟨_, e, by omega⟩
      · exact ⟨_, e, by omega⟩
      · exact ⟨_, e, by omega⟩
    have S912 := S10.trans (sk.trans S12)
    have S012 := S09.trans S912
    refine ⟨_, rfl, _, rfl, _, rfl, _, rfl, (by show 2 ≤ sizeLine; decide), fun k2 nk2 => ?_⟩
    have sk2 := same_new (o := .tup [y, w']) (Same.refl H12) nk2
    refine ⟨v, .ref k2, n, pl, ts, (p, c1, c2), rfl, Dt.keep (TK.of (S012.trans sk2)) hd, hz.keep (TK.of (S012.trans sk2)), fine, .tup upd_same (.cons (Dt.keep (TK.new nk2) (Dt.keep (TK.of S912) hy9)) (.cons (Dt.keep (TK.new nk2) (Dt.keep (TK.of S912) hwd)) .nil)), M.ok.1, M.ok.2.1, hb, fun H' S' => ⟨_, _, rfl, rfl, _, rfl, ?_⟩⟩
    rw [M.shows_no ec nn]
    exact iteF' rfl ⟨_, rfl, S12.trans (sk2.trans S')⟩
end
end Far

namespace Far
open PySem PySem.Spec PyProof.Rows L2
open C8 (pss_cut tCut)
open SX (S)
open RZ (ItzT iZipA pi_zipA)
structure TxtP (mg : Str → Option Value) : Prop where
  enumerate : mg "enumerate" = none
  min : mg "min" = none
  max : mg "max" = none
  zip : mg "zip" = none
  list : mg "list" = none
  len : mg "len" = none
  range : mg "range" = none
abbrev s_law_far_right : Stmt := topS 33
abbrev N_law_far_right : List Str := ["tree", "point", "half", "one", "other", "part", "far", "near", "beyond", "tie", "at", "length", "way"]
theorem sc_law_far_right : FnScope N_law_far_right ["tree"] (defScope s_law_far_right) := ⟨rfl, rfl, rfl, by decide +kernel, rfl, by decide +kernel, by decide +kernel⟩
section
variable {P : Program} {w : World} {K : PySem.W.Frag} {mg : Str → Option Value} {base : Heap}
theorem ok_far_right {f : Addr} {fd : FuncData} (F : Fun K "_law_far_right" "_law_far_right" s_law_far_right f fd) (T : TxtP mg) (Cmiddle_point : Cal P w K mg base 6 "middle_point" spMp) (Cfarthest : Cal P w K mg base 5 "farthest" spFarthest) (Cfarthest_of_each : Cal P w K mg base 4 "farthest_of_each" spFoe) (Clengths_from : Cal P w K mg base 3 "lengths_from" spLens) (Clength_between : Cal P w K mg base 3 "length_between" spLen) : FnOk P w K mg base CX0 7 f fd ["tree"] spYes := by
  refine F.ok sc_law_far_right (fun vs H Q E h => ?_) (fun cdv A outer s H vs Q E hr h => ?_)
  · obtain ⟨v, pl, ts, rfl, _⟩ := h
    rfl
  · obtain ⟨v, pl, ts, rfl, hd, hz, fine, q⟩ := h
    obtain ⟨D, u, x, ⟨one, other, above, below⟩, B⟩ := best_of fine
    have pl1 := fine.len
    have M := B.mid
    have m1 : one ∈ pl := M.m1
    have m2 : other ∈ pl := M.m2
    have hb : -(2 ^ 64) < below ∧ below < 2 ^ 64 := by
      rcases M.q with e | e
      · have e : below = 1 := e
        rw [e]
        decide
      · have e : below = 2 := e
        rw [e]
        decide
    refine ⟨_, (pss_cons (ps_asg (pe_c Cmiddle_point hr (by decide) rfl (pa_cons (pv 0) pa_nil)) (pg_tup rfl (pgs_cons (pg_name (i := 1) sc_law_far_right.nd rfl (.inl rfl)) (pgs_cons (pg_name (i := 2) sc_law_far_right.nd rfl (.inl rfl)) pgs_nil))))
      (pss_cons (ps_asg (pv 1) (pg_tup rfl (pgs_cons (pg_name (i := 3) sc_law_far_right.nd rfl (.inl rfl)) (pgs_cons (pg_name (i := 4) sc_law_far_right.nd rfl (.inl rfl)) (pgs_cons (pg_name (i := 5) sc_law_far_right.nd rfl (.inl rfl)) pgs_nil)))))
      (pss_cons (ps_set (i := 6) sc_law_far_right.nd rfl (.inl rfl) (pe_c Cfarthest_of_each hr (by decide) rfl (pa_cons (pv 0) pa_nil)))
      (pss_cons (ps_set (i := 7) sc_law_far_right.nd rfl (.inl rfl) (pe_c Clengths_from hr (by decide) rfl (pa_cons (pv 0) (pa_cons (pv 3) pa_nil))))
      (pss_cons (ps_set (i := 8) sc_law_far_right.nd rfl (.inl rfl) (pe_c Clengths_from hr (by decide) rfl (pa_cons (pv 0) (pa_cons (pv 4) pa_nil))))
      (pss_cons (ps_set (i := 9) sc_law_far_right.nd rfl (.inl rfl) (pe_c Clength_between hr (by decide) rfl (pa_cons (pv 0) (pa_cons (pv 3) (pa_cons (pv 4) pa_nil)))))
      (pss_cut (ps_for PassesOwn.never rfl (pi_enumT (by rfl) T.enumerate (pa_cons (pv 6) pa_nil)) (pg_tup rfl (pgs_cons (pg_name (i := 10) sc_law_far_right.nd rfl (.inl rfl)) (pgs_cons (pg_name (i := 11) sc_law_far_right.nd rfl (.inl rfl)) pgs_nil)))
        (pss_cons (ps_set (i := 12) sc_law_far_right.nd rfl (.inl rfl) (pe_callB (call_min2 rfl) (by rfl) T.min bt_min (pa_cons (pe_op op_add (pe_op op_mul (pe_ix ix_tup (pv 7) (pv 10) (fun _ _ => rfl)) (pe_ix ix_tup (pv 5) pe_int (fun _ _ => rfl))) (pe_ix ix_tup (pv 5) pe_int (fun _ _ => rfl))) (pa_cons (pe_op op_sub (pe_op op_mul (pe_op op_add (pe_ix ix_tup (pv 8) (pv 10) (fun _ _ => rfl)) (pv 9)) (pe_ix ix_tup (pv 5) pe_int (fun _ _ => rfl))) (pe_ix ix_tup (pv 5) pe_int (fun _ _ => rfl))) pa_nil))))
        (pss_one (ps_if (pt_cmpR op_ne (pe_op op_mul pe_int (pe_op op_sub (pe_op op_mul (pv 11) (pe_ix ix_tup (pv 5) pe_int (fun _ _ => rfl))) (pv 12))) (pe_op op_mul (pe_ix ix_tup (pe_c Cfarthest hr (by decide) rfl (pa_cons (pv 0) pa_nil)) pe_int (fun _ _ => rfl)) (pe_ix ix_tup (pv 5) pe_int (fun _ _ => rfl))) (nomark _))
          (pss_one (ps_ret pe_bl))
          pss_nil))))
      (pss_one (ps_ret pe_bl))))))))), ?_⟩
    refine ⟨_, rfl, v, pl, ts, rfl, hd, hz, fine, fun H1 r S1 hr1 => ?_⟩
    rw [B.mD] at hr1
    obtain ⟨g, hf, y, rfl, hg, hy, hhf⟩ := dt_mid hr1
    refine ⟨g, _, rfl, SqT.of hg, rfl, _, _, rfl, _, _, rfl, rfl, ?_⟩
    obtain ⟨pg, pr, rfl, hpg, hpr⟩ := dt_pt hy
    dsimp only at hpg hpr
    refine ⟨_, rfl, pg, _, rfl, SqT.of hpg, rfl, _, _, rfl, _, _, rfl, _, _, rfl, rfl, ?_⟩
    refine ⟨_, rfl, v, pl, ts, rfl, Dt.keep (TK.of S1) hd, fine, fun H2 fa S2 nfa hfa => ?_⟩
    have S02 := S1.trans S2
    refine ⟨_, rfl, _, rfl, v, pl, ts, one, rfl, Dt.keep (TK.of S02) hd, fine, m1, fun H3 q3 S3 n3 h3 => ?_⟩
    have S03 := S02.trans S3
    refine ⟨_, rfl, _, rfl, v, pl, ts, other, rfl, Dt.keep (TK.of S03) hd, fine, m2, fun H4 q4 S4 n4 h4 => ?_⟩
    have S04 := S03.trans S4
    refine ⟨_, rfl, _, rfl, _, rfl, v, pl, ts, one, other, rfl, Dt.keep (TK.of S04) hd, fine, m1, m2, fun H5 S5 => ?_⟩
    have S05 := S04.trans S5
    have h35 := S5 _ _ (S4 _ _ h3)
    have h45 := S5 _ _ h4
    have hfa5 := S5 _ _ (S4 _ _ (S3 _ _ hfa))
    have hpr5 := S5 _ _ (S4 _ _ (S3 _ _ (S2 _ _ hpr)))
    refine ⟨fun σ' H' => Same H5 H', ?_, fun σ' H' hM => q H' (S05.trans hM)⟩
    refine ⟨_, rfl, fa, _, rfl, SqT.of hfa5, ?_⟩
    refine for_enumT (K := K) (a := fa) (xs := (pl.map (rch pl ts)).map V.int) (fun i σ' H' => ∃ x10 x11 x12 : Option V, σ' = [some v, some (.ref pg), some (.ref hf), some (.str (S one)), some (.str (S other)), some (.ref pr), some (.ref fa), some (.ref q3), some (.ref q4), some (.int (dist ts one other)), x10, x11, x12] ∧ Same H5 H') ⟨_, _, _, rfl, Same.refl _⟩ (fun i σ' H' hP => by obtain ⟨_, _, _, _, s⟩ := hP; exact SqT.of (s _ _ hfa5)) (fun i v' σ' H6 e hi hP ne => ?_) (fun σ' H' hP => by obtain ⟨_, _, _, _, s⟩ := hP; exact s)
    obtain ⟨x10, x11, x12, rfl, S6⟩ := hP
    rw [List.getElem?_map, List.getElem?_map] at hi
    cases ey : pl[i]? with
    | none => rw [ey] at hi; cases hi
    | some z =>
      rw [ey] at hi
      have ev : v' = .int (rch pl ts z) := (Option.some.inj hi).symm
      subst ev
      have hzm := List.mem_of_getElem? ey
      have S7 := S6.trans (same_new (o := .tup [.int (i : Nat), .int (rch pl ts z)]) (Same.refl H6) ne)
      have he : (upd H6 e (.tup [.int (i : Nat), .int (rch pl ts z)])) e = some (.tup [.int (i : Nat), .int (rch pl ts z)]) := upd_same
      generalize upd H6 e (.tup [.int (i : Nat), .int (rch pl ts z)]) = H7 at S7 he
      have p1 : atI [V.int above, .int below] 1 = some (.int below) := atI_nat (j := 1) rfl
      have p0 : atI [V.int above, .int below] 0 = some (.int above) := atI_nat (j := 0) rfl
      have hp7 := S7 _ _ hpr5
      refine ⟨e, _, rfl, SqT.of he, rfl, _, _, rfl, _, _, rfl, rfl, ?_⟩
      refine ⟨_, rfl, _, rfl, q3, _, (i : Int), .int (dist ts one z), rfl, rfl, SqT.of (S7 _ _ h35), atI_nat (by rw [List.getElem?_map, ey]; rfl), _, rfl, pr, _, 1, _, rfl, rfl, SqT.of hp7, p1, _, _, rfl, rfl, .inr hb, _, rfl, pr, _, 0, _, rfl, rfl, SqT.of hp7, p0, _, _, rfl, rfl, ?_⟩
      refine ⟨_, rfl, _, rfl, q4, _, (i : Int), .int (dist ts other z), rfl, rfl, SqT.of (S7 _ _ h45), atI_nat (by rw [List.getElem?_map, ey]; rfl), _, rfl, _, _, rfl, rfl, _, rfl, pr, _, 1, _, rfl, rfl, SqT.of hp7, p1, _, _, rfl, rfl, .inr hb, _, rfl, pr, _, 0, _, rfl, rfl, SqT.of hp7, p0, _, _, rfl, rfl, ?_⟩
      refine ⟨_, _, rfl, ?_⟩
      refine ⟨_, rfl, _, rfl, pr, _, 1, _, rfl, rfl, SqT.of hp7, p1, _, _, rfl, rfl, .inr hb, _, rfl, _, _, rfl, rfl, _, _, rfl, rfl, .inl ⟨by decide, by decide⟩, ?_⟩
      refine ⟨_, rfl, v, pl, ts, rfl, Dt.keep (TK.of (S05.trans S7)) hd, fine, fun H8 r8 S8 hr8 => ?_⟩
      rw [B.fD] at hr8
      obtain ⟨t8, rfl, ht8⟩ := dt_tri hr8
      refine ⟨t8, _, 0, .int D, rfl, rfl, SqT.of ht8, atI_nat (j := 0) rfl, _, rfl, pr, _, 1, _, rfl, rfl, SqT.of (S8 _ _ hp7), p1, _, _, rfl, rfl, .inr hb, rfl, _, rfl, iteF' ?_ ⟨_, _, _, rfl, S7.trans S8⟩⟩
      have re : 2 * (rch pl ts z * below) = dbl ts (one, other, above, below) z + D * below := M.reach z hzm
      have e2 : 2 * (rch pl ts z * below - mn2 (dist ts one z * below + above) ((dist ts other z + dist ts one other) * below - above)) = D * below := by
        have e3 : dbl ts (one, other, above, below) z = 2 * mn2 (dist ts one z * below + above) ((dist ts other z + dist ts one other) * below - above) := rfl
        rw [e3] at re
        omega
      show (!decide (V.int (2 * (rch pl ts z * below - mn2 (dist ts one z * below + above) ((dist ts other z + dist ts one other) * below - above))) = V.int (D * below))) = false
      rw [e2, decide_eq_true rfl]
      rfl
end
end Far

namespace Far
open PySem PySem.Spec PyProof.Rows L2
open C8 (pss_cut tCut)
open SX (S)
open RZ (ItzT iZipA pi_zipA)
theorem names_shaped {ls : List Nm} (h : ∀ l ∈ ls, NameOk l) : SeqAt.shaped (.list (ls.map strD)) = true := shaped_strs h
theorem names_shapedT {ls : List Nm} (h : ∀ l ∈ ls, NameOk l) : SeqAt.shaped (.tuple (ls.map strD)) = true := shaped_strs h
theorem strs_same (xs : List Nm) : PyData.eqvAll (xs.map strD) (xs.map strD) = true := by
  induction xs with
  | nil => rfl
  | cons x r ih =>
    show (S x == S x && PyData.eqvAll (r.map strD) (r.map strD)) = true
    rw [ih, beq_self_eq_true]
    rfl
theorem filter_one {pl : List Nm} (nd : pl.Nodup) {f : Nm → Bool} {a : Nm} (ha : a ∈ pl) (h : ∀ y ∈ pl, f y = true ↔ y = a) : pl.filter f = [a] := by
  induction pl with
  | nil => cases ha
  | cons b r ih =>
    obtain ⟨nb, nr⟩ := List.nodup_cons.mp nd
    by_cases c : b = a
    · subst c
      rw [List.filter_cons, if_pos ((h b (List.mem_cons_self ..)).mpr rfl)]
      have : r.filter f = [] := List.filter_eq_nil_iff.mpr fun y hy z => nb (by
        have := (h y (List.mem_cons_of_mem _ hy)).mp z
        exact this ▸ hy)
      rw [this]
    · rw [List.filter_cons, if_neg (fun z => c ((h b (List.mem_cons_self ..)).mp z))]
      refine ih nr ?_ fun y hy => h y (List.mem_cons_of_mem _ hy)
      rcases List.mem_cons.mp ha with e | e
      · exact absurd e.symm c
      · exact e
abbrev s_law_least_right : Stmt := topS 34
abbrev N_law_least_right : List Str := ["tree", "point", "half", "least", "some", "far", "due", "longest", "place", "length", "one", "other"]
theorem sc_law_least_right : FnScope N_law_least_right ["tree"] (defScope s_law_least_right) := ⟨rfl, rfl, rfl, by decide +kernel, rfl, by decide +kernel, by decide +kernel⟩
section
variable {P : Program} {w : World} {K : PySem.W.Frag} {mg : Str → Option Value} {base : Heap}
theorem ok_least_right {f : Addr} {fd : FuncData} (F : Fun K "_law_least_right" "_law_least_right" s_law_least_right f fd) (T : TxtP mg) (Cmiddle_point : Cal P w K mg base 6 "middle_point" spMp) (Cmiddles : Cal P w K mg base 5 "middles" spMid) (Cfarthest_of_each : Cal P w K mg base 4 "farthest_of_each" spFoe) : FnOk P w K mg base CX0 7 f fd ["tree"] spYes := by
  refine F.ok sc_law_least_right (fun vs H Q E h => ?_) (fun cdv A outer s H vs Q E hr h => ?_)
  · obtain ⟨v, pl, ts, rfl, _⟩ := h
    rfl
  · obtain ⟨v, pl, ts, rfl, hd, hz, fine, q⟩ := h
    obtain ⟨D, u, x, ⟨one, other, above, below⟩, B⟩ := best_of fine
    obtain ⟨t, a, b, vs, rfl, ht, ha, hbt, hA⟩ := dt_tree hd
    have pl1 := fine.len
    have TT := fine.tree
    have nd := TT.nodup
    have M := B.mid
    have m1 : one ∈ pl := M.m1
    have m2 : other ∈ pl := M.m2
    have pl0 : 0 < (pl.map (rch pl ts)).length := by
      rw [List.length_map]
      exact List.length_pos_iff.mpr fine.ne
    obtain ⟨g1, g2, g3⟩ := halfP_is D
    have hb : -(2 ^ 64) < (halfP D).2 ∧ (halfP D).2 < 2 ^ 64 := by rcases g2 with e | e <;> rw [e] <;> decide
    have mD := B.mD
    generalize halfP D = hp at g1 g2 g3 hb mD
    obtain ⟨h0, h1⟩ := hp
    dsimp only at g1 g2 hb mD
    refine ⟨_, (pss_cons (ps_asg (pe_c Cmiddle_point hr (by decide) rfl (pa_cons (pv 0) pa_nil)) (pg_tup rfl (pgs_cons (pg_name (i := 1) sc_law_least_right.nd rfl (.inr rfl)) (pgs_cons (pg_name (i := 2) sc_law_least_right.nd rfl (.inl rfl)) pgs_nil))))
      (pss_cons (ps_asg (pe_c Cmiddles hr (by decide) rfl (pa_cons (pv 0) pa_nil)) (pg_tup rfl (pgs_cons (pg_name (i := 3) sc_law_least_right.nd rfl (.inr rfl)) (pgs_cons (pg_name (i := 4) sc_law_least_right.nd rfl (.inl rfl)) pgs_nil))))
      (pss_cons (ps_set (i := 5) sc_law_least_right.nd rfl (.inl rfl) (pe_c Cfarthest_of_each hr (by decide) rfl (pa_cons (pv 0) pa_nil)))
      (pss_cons (ps_setLc (i := 6) (own := [("place", 8), ("length", 9)]) (g := gTup K 2 (gCons (gName 8) (gCons (gName 9) gNil)))  rfl sc_law_least_right.nd rfl rfl (sw_true rfl rfl rfl (by decide +kernel)) (pi_zipA (by rfl) T.zip (pa_cons (pe_ix ix_tup (pv 0) pe_int (fun _ _ => rfl)) (pa_cons (pv 5) pa_nil))) (blkOk_by (N := N_law_least_right) (sc := defScope s_law_least_right) (by decide +kernel)) (fun _ _ _ _ _ => (pg_tup rfl (pgs_cons (pg_name (i := 8) sc_law_least_right.nd rfl (.inl rfl)) (pgs_cons (pg_name (i := 9) sc_law_least_right.nd rfl (.inl rfl)) pgs_nil)))) (fun _ _ _ _ _ => pts_one (pt_cmpR op_eq (pv 9) (pv 3) (nomark _))) (fun _ _ _ _ _ => (pv 8)))
      (pss_cut (ps_if (PW.pt (pw_or (pt_cmpR op_ne (pv 3) (pe_callB (cr_minT (K := K) rfl) (by rfl) T.min bt_min (pa_cons (pv 5) pa_nil)) (nomark _)) (pw_or1 (pt_cmpR (op_neD (hd_of hr (by decide))) (pv 6) (pe_callTy call_list_of (by rfl) T.list bt_list (pa_cons (pv 4) pa_nil)) (nomark _)))))
        (pss_one (ps_ret pe_bl))
        pss_nil)
      (pss_cut (ps_if (pt_cmpR op_eq (pe_ix ix_tup (pv 1) pe_int (fun _ _ => rfl)) (pe_ix ix_tup (pv 1) pe_int (fun _ _ => rfl)) (nomark _))
        (pss_one (ps_ret (pe_and (pe_cmpR (op_eqD (hd_of hr (by decide))) (pv 4) (pe_tup (pa_cons (pe_ix ix_tup (pv 1) pe_int (fun _ _ => rfl)) pa_nil)) (nomark _)) (pe_one (pe_cmpR op_eq (pe_op op_mul (pv 3) (pe_ix ix_tup (pv 2) pe_int (fun _ _ => rfl))) (pe_ix ix_tup (pv 2) pe_int (fun _ _ => rfl)) (nomark _))))))
        pss_nil)
      (pss_cut (ps_if (pt_cmpR (op_neD (hd_of hr (by decide))) (pe_lc (own := [("place", 8)]) (g := gName 8)  rfl sc_law_least_right.nd (pi_tup (pv 4)) (blkOk_by (N := N_law_least_right) (sc := defScope s_law_least_right) (by decide +kernel)) (fun _ _ _ _ _ => pg_name (i := 8) sc_law_least_right.nd rfl (Or.inl rfl)) (fun _ _ _ _ _ => pts_one (pt_cmpR (notInK (K := K)) (pv 8) (pe_slice (slTK (K := K)) (pv 1) po_none (po_some pe_int)) rfl)) (fun _ _ _ _ _ => (pv 8))) (pe_lst pa_nil) (nomark _))
        (pss_one (ps_ret pe_bl))
        pss_nil)
      (pss_cons (ps_set (i := 7) sc_law_least_right.nd rfl (.inl rfl) (pe_callB (cr_max rfl) (by rfl) T.max bt_max (pa_cons (pe_lc (own := [("one", 10), ("other", 11), ("length", 9)]) (g := gTup K 3 (gCons (gName 10) (gCons (gName 11) (gCons (gName 9) gNil)))) (tt := tYes) rfl sc_law_least_right.nd (pi_tup (pe_ix ix_tup (pv 0) pe_int (fun _ _ => rfl))) (blkOk_by (N := N_law_least_right) (sc := defScope s_law_least_right) (by decide +kernel)) (fun _ _ _ _ _ => (pg_tup rfl (pgs_cons (pg_name (i := 10) sc_law_least_right.nd rfl (.inl rfl)) (pgs_cons (pg_name (i := 11) sc_law_least_right.nd rfl (.inl rfl)) (pgs_cons (pg_name (i := 9) sc_law_least_right.nd rfl (.inl rfl)) pgs_nil))))) (fun _ _ _ _ _ => pts_nil) (fun _ _ _ _ _ => (pv 9))) pa_nil)))
      (pss_cut (ps_if (pt_cmpR op_gt (pe_ix ix_tup (pv 2) pe_int (fun _ _ => rfl)) (pe_op op_mul (pv 3) (pe_ix ix_tup (pv 2) pe_int (fun _ _ => rfl))) (nomark _))
        (pss_one (ps_ret pe_bl))
        pss_nil)
      (pss_one (ps_ret (pe_cmpR op_le (pe_op op_mul pe_int (pe_op op_sub (pe_op op_mul (pv 3) (pe_ix ix_tup (pv 2) pe_int (fun _ _ => rfl))) (pe_ix ix_tup (pv 2) pe_int (fun _ _ => rfl)))) (pe_op op_mul (pv 7) (pe_ix ix_tup (pv 2) pe_int (fun _ _ => rfl))) (nomark _))))))))))))), ?_⟩
    refine ⟨_, rfl, .ref t, pl, ts, rfl, hd, hz, fine, fun H1 r S1 hr1 => ?_⟩
    rw [mD] at hr1
    obtain ⟨g, hf, y, rfl, hg, hy, hhf⟩ := dt_mid hr1
    refine ⟨g, _, rfl, SqT.of hg, rfl, _, _, rfl, _, _, rfl, rfl, ?_⟩
    obtain ⟨pg, pr, rfl, hpg, hpr⟩ := dt_pt hy
    dsimp only at hpg hpr
    refine ⟨_, rfl, .ref t, pl, ts, rfl, Dt.keep (TK.of S1) hd, fine, fun H2 r2 S2 hr2 => ?_⟩
    have S02 := S1.trans S2
    have nD : ∀ l : Nm, thoseD pl (rch pl ts) (midN pl ts) ≠ strD l := fun l z => nomatch z
    obtain ⟨g2', x2, y2, rfl, hg2, hx2, hy2⟩ := dt_pair (show Dt H2 r2 (.tuple [.int (midN pl ts), thoseD pl (rch pl ts) (midN pl ts)]) from hr2) nD
    cases hx2
    obtain ⟨sm, rfl, hsm⟩ := dt_names (pl := pl.filter fun x => rch pl ts x == midN pl ts) hy2
    refine ⟨g2', _, rfl, SqT.of hg2, rfl, _, _, rfl, _, _, rfl, rfl, ?_⟩
    refine ⟨_, rfl, .ref t, pl, ts, rfl, Dt.keep (TK.of S02) hd, fine, fun H3 fa S3 nfa hfa => ?_⟩
    have S03 := S02.trans S3
    have eN : mnG (pl.map (rch pl ts)) = midN pl ts := rfl
    -- due
    refine ⟨_, rfl, t, _, 0, .ref a, rfl, rfl, SqT.of (S03 _ _ ht), atI_nat (j := 0) rfl, _, rfl, a, fa, _, _, rfl, .inr ⟨(ha.same S03).sq, SqT.of hfa, fun C nC => ?_⟩⟩
    refine zip_it (xs := (pl.map S).map V.str) (ys := (pl.map (rch pl ts)).map V.int) (by simp) (fun i H' => Same H3 H' ∧ H' C = some (.lst ((((pl.take i).filter fun x => rch pl ts x == midN pl ts).map S).map V.str))) ⟨same_new (Same.refl H3) nC, upd_same⟩ (fun i H' hP => ⟨(ha.same (S03.trans hP.1)).sq, SqT.of (hP.1 _ _ hfa)⟩) (fun i x y H' T' hx hy hP nT => ?_) (fun H4 hP => ?_)
    · obtain ⟨SM, hC⟩ := hP
      obtain ⟨l, ex, hl, rfl, et⟩ := at_name hx
      rw [List.getElem?_map, List.getElem?_map, ex] at hy
      cases hy
      have et := take_snoc_filter (f := rch pl ts) (n := midN pl ts) et
      have CT : C ≠ T' := ne_of_none hC nT
      have hC2 : (upd H' T' (.tup [.str (S l), .int (rch pl ts l)])) C = some (.lst ((((pl.take i).filter fun x => rch pl ts x == midN pl ts).map S).map V.str)) := by
        rw [upd_ne CT]
        exact hC
      refine ⟨T', _, rfl, SqT.of upd_same, rfl, _, _, rfl, _, _, rfl, rfl, rfl, _, rfl, _, rfl, rfl, _, rfl, ?_⟩
      refine ite2 (fun z => ?_) (fun z => ?_)
      · have z : rch pl ts l = midN pl ts := V.int.inj (of_decide_eq_true z)
        rw [if_pos z] at et
        refine ⟨_, rfl, _, hC2, ?_, same_put (same_new SM nT) nC, ?_⟩
        · rw [List.length_map, List.length_map]
          refine sz_lt ?_
          have := List.length_filter_le (fun x => rch pl ts x == midN pl ts) (pl.take i)
          rw [List.length_take] at this
          omega
        · rw [upd_same, et, List.map_append, List.map_append]
          rfl
      · have z : rch pl ts l ≠ midN pl ts := fun y => z (by rw [y]; exact decide_eq_true rfl)
        rw [if_neg z, List.append_nil] at et
        exact ⟨same_new SM nT, by rw [et]; exact hC2⟩
    obtain ⟨S4, hC⟩ := hP
    rw [List.length_map, List.length_map, List.take_length] at hC
    have fok : ∀ l ∈ pl.filter (fun x => rch pl ts x == midN pl ts), NameOk l := fun l hl => fine.ok l (List.mem_filter.mp hl).1
    have flm : ∀ l ∈ pl.filter (fun x => rch pl ts x == midN pl ts), l ∈ pl ∧ rch pl ts l = midN pl ts := fun l hl => ⟨(List.mem_filter.mp hl).1, beq_iff_eq.mp (List.mem_filter.mp hl).2⟩
    have flen : (pl.filter (fun x => rch pl ts x == midN pl ts)).length ≤ 1000 := Nat.le_trans (List.length_filter_le _ _) pl1
    have fone : one = other → pl.filter (fun x => rch pl ts x == midN pl ts) = [one] := fun c => filter_one nd m1 fun y hy => by
      rw [beq_iff_eq]
      exact (M.place TT c).2 y hy
    generalize pl.filter (fun x => rch pl ts x == midN pl ts) = fl at hsm hC fok flm flen fone
    have hsm4 := (hsm.same S3).same S4
    have S04 := S03.trans S4
    refine ⟨fun σ' H' => σ' = [some (.ref t), some (.ref pg), some (.ref hf), some (.int (midN pl ts)), some (.ref sm), some (.ref fa), some (.ref C), none, none, none, none, none] ∧ Same H4 H', ?_, fun σ' H5 hM => ?_⟩
    · refine ⟨_, rfl, _, rfl, fa, _, rfl, SqT.of (S4 _ _ hfa), pl0, fun m hm hle => ?_⟩
      have em := mnG_is hm hle
      subst em
      refine ⟨rfl, _, rfl, iteF' ?_ ?_⟩
      · rw [eN, decide_eq_true rfl]
        rfl
      refine ⟨_, rfl, _, rfl, sm, _, rfl, .inr hsm4.sq, fun l nl => ?_⟩
      have sl := same_new (o := .lst ((fl.map S).map V.str)) (Same.refl H4) nl
      refine ⟨.list (fl.map strD), .list (fl.map strD), .lst (SqL.of (sl _ _ hC)) (DtAll.dp (dt_strs _ _)), .lst (SqL.of upd_same) (DtAll.dp (dt_strs _ _)), names_shaped fok, names_shaped fok, _, rfl, iteF' ?_ ⟨rfl, sl⟩⟩
      show (!PyData.eqvAll (fl.map strD) (fl.map strD)) = false
      rw [strs_same]
      rfl
    obtain ⟨rfl, S5⟩ := hM
    have S05 := S04.trans S5
    have S15 := S2.trans (S3.trans (S4.trans S5))
    have hpg5 := S15 _ _ hpg
    have hhf5 := S15 _ _ hhf
    have hsm5 := hsm4.same S5
    have p0 : atI [V.str (S one), .str (S other), .ref pr] 0 = some (.str (S one)) := atI_nat (j := 0) rfl
    have p1 : atI [V.str (S one), .str (S other), .ref pr] 1 = some (.str (S other)) := atI_nat (j := 1) rfl
    have k0 : atI [V.int h0, .int h1] 0 = some (.int h0) := atI_nat (j := 0) rfl
    have k1 : atI [V.int h0, .int h1] 1 = some (.int h1) := atI_nat (j := 1) rfl
    refine ⟨fun σ' H' => one ≠ other ∧ σ' = [some (.ref t), some (.ref pg), some (.ref hf), some (.int (midN pl ts)), some (.ref sm), some (.ref fa), some (.ref C), none, none, none, none, none] ∧ H5 = H', ?_, fun σ' H' hM => ?_⟩
    · refine ⟨_, rfl, pg, _, 0, _, rfl, rfl, SqT.of hpg5, p0, _, rfl, pg, _, 1, _, rfl, rfl, SqT.of hpg5, p1, rfl, _, rfl, ?_⟩
      by_cases c : one = other
      · refine iteT' (by rw [c]; exact decide_eq_true rfl) ?_
        refine ⟨_, rfl, _, rfl, pg, _, 0, _, rfl, rfl, SqT.of hpg5, p0, (by show 1 ≤ sizeLine; decide), fun e ne => ?_⟩
        have se := same_new (o := .tup [.str (S one)]) (Same.refl H5) ne
        refine ⟨.tuple (fl.map strD), .tuple [strD one], .tup (hsm5.same se).sq (DtAll.dp (dt_strs _ _)), .tup (SqT.of upd_same) (.cons (.str _) .nil), names_shapedT fok, names_shapedT (ls := [one]) (fun l hl => by rw [List.mem_singleton.mp hl]; exact fine.ok _ m1), _, rfl, ?_⟩
        rw [fone c]
        refine iteT' (strs_same [one]) ?_
        refine ⟨_, rfl, _, rfl, hf, _, 1, _, rfl, rfl, SqT.of (se _ _ hhf5), k1, _, _, rfl, rfl, .inr hb, _, rfl, hf, _, 0, _, rfl, rfl, SqT.of (se _ _ hhf5), k0, rfl, ?_⟩
        have e1 := (M.place TT c).1
        rw [eN] at e1
        have e2 : midN pl ts * h1 = h0 := by rcases g2 with rfl | rfl <;> omega
        show Q (.bl (decide (V.int (midN pl ts * h1) = V.int h0))) _
        rw [e2, decide_eq_true rfl]
        exact q _ (S05.trans se)
      · exact iteF' (decide_eq_false fun z => c (SX.S_inj (V.str.inj z))) ⟨c, rfl, rfl⟩
    obtain ⟨c, rfl, rfl⟩ := hM
    obtain ⟨ends, upper⟩ := M.ends TT c
    rw [eN] at ends upper
    have ends : ∀ y ∈ pl, rch pl ts y = midN pl ts → y = one ∨ y = other := ends
    have upper : 2 * midN pl ts ≤ dist ts one other + D := upper
    have least := M.least TT
    rw [eN] at least
    obtain ⟨_, _, tt, htt, ett⟩ := M.tie c
    have ett : tt.2.2 = dist ts one other := ett
    -- among its ends
    refine ⟨fun σ' H' => σ' = [some (.ref t), some (.ref pg), some (.ref hf), some (.int (midN pl ts)), some (.ref sm), some (.ref fa), some (.ref C), none, none, none, none, none] ∧ Same H5 H', ?_, fun σ' H6 hM => ?_⟩
    · refine ⟨_, rfl, sm, rfl, ⟨_, hsm5.sq⟩, fun C2 nC2 => ?_⟩
      refine lc_tup (K := K) (a := sm) (xs := (fl.map S).map V.str) (fun i H' => Same H5 H' ∧ H' C2 = some (.lst [])) ⟨same_new (Same.refl _) nC2, upd_same⟩ (fun i H' _ hP => (hsm5.same hP.1).sq) (fun i v' H' hi hP => ?_) (fun H6 hP => ?_)
      · obtain ⟨SM, hC2⟩ := hP
        obtain ⟨l, ex, hl, rfl, et⟩ := at_name hi
        obtain ⟨lp, lr⟩ := flm l hl
        refine ⟨rfl, _, rfl, _, rfl, 2, rfl, pg, _, rfl, SqT.of (SM _ _ hpg5), (by show ¬ (HT.sIx 3 0 none = 0 ∧ HT.sIx 3 3 (some 2) = 3); decide), fun p np => ?_⟩
        rw [show cutV [V.str (S one), .str (S other), .ref pr] none (some 2) = (([one, other] : List Nm).map S).map V.str from rfl]
        have sp := same_new (o := .tup ((([one, other] : List Nm).map S).map V.str)) (Same.refl H') np
        refine ⟨p, _, rfl, .inr (SqT.of upd_same), rfl, flat_strs _, _, rfl, ?_⟩
        rw [inV_strs, decide_eq_true (show l ∈ [one, other] by rcases ends l lp lr with e | e <;> simp [e])]
        exact iteF' rfl ⟨SM.trans sp, sp _ _ hC2⟩
      · obtain ⟨SM, hC2⟩ := hP
        refine ⟨Nat.zero_le _, fun e ne => ?_⟩
        have se := same_new (o := .lst []) (Same.refl H6) ne
        exact ⟨.list [], .list [], .lst (SqL.of (se _ _ hC2)) .nil, .lst (SqL.of upd_same) .nil, rfl, rfl, _, rfl, iteF' rfl ⟨rfl, SM.trans se⟩⟩
    obtain ⟨rfl, S6⟩ := hM
    have S06 := S05.trans S6
    have hhf6 := S6 _ _ hhf5
    have hbt6 := S06 _ _ hbt
    have vl : vs.length = ts.length := by
      have := DtAll.len hA
      rwa [List.length_map] at this
    have tll := TT.len
    -- longest
    refine ⟨_, rfl, t, _, 1, .ref b, rfl, rfl, SqT.of (S06 _ _ ht), atI_nat (j := 1) rfl, b, rfl, ⟨_, SqT.of hbt6⟩, fun C3 nC3 => ?_⟩
    refine lc_tup (K := K) (a := b) (xs := vs) (fun i H' => Same H6 H' ∧ H' C3 = some (.lst (((ts.take i).map (·.2.2)).map V.int))) ⟨same_new (Same.refl _) nC3, upd_same⟩ (fun i H' _ hP => SqT.of (hP.1 _ _ hbt6)) (fun i v' H' hi hP => ?_) (fun H7 hP => ?_)
    · obtain ⟨SM, hC3⟩ := hP
      obtain ⟨t3, p3, ht3, rfl, hp3⟩ := tie_at (DtAll.keep (TK.of (S06.trans SM)) hA) hi
      have il := (List.getElem?_eq_some_iff.mp ht3).1
      refine ⟨p3, _, rfl, SqT.of hp3, rfl, _, _, rfl, _, _, rfl, _, _, rfl, rfl, rfl, _, rfl, ?_⟩
      refine ⟨_, hC3, ?_, same_put SM nC3, ?_⟩
      · rw [List.length_map, List.length_map, List.length_take]
        exact sz_lt (by omega)
      · rw [upd_same, List.take_add_one, ht3, List.map_append, List.map_append]
        rfl
    obtain ⟨S7, hC3⟩ := hP
    rw [vl, List.take_length] at hC3
    refine ⟨C3, ts.map (·.2.2), rfl, SqL.of hC3, (by rw [List.length_map]; exact List.length_pos_of_mem htt), fun m hm hle => ?_⟩
    have lm := hle _ (List.mem_map.mpr ⟨tt, htt, rfl⟩)
    rw [ett] at lm
    have hhf7 := S7 _ _ hhf6
    have S07 := S06.trans S7
    refine ⟨fun σ' H' => σ' = [some (.ref t), some (.ref pg), some (.ref hf), some (.int (midN pl ts)), some (.ref sm), some (.ref fa), some (.ref C), some (.int m), none, none, none, none] ∧ H7 = H', ?_, fun σ' H' hM => ?_⟩
    · refine ⟨_, rfl, hf, _, 0, _, rfl, rfl, SqT.of hhf7, k0, _, rfl, _, rfl, hf, _, 1, _, rfl, rfl, SqT.of hhf7, k1, _, _, rfl, rfl, .inr hb, _, _, rfl, rfl, _, rfl, iteF' (decide_eq_false ?_) ⟨rfl, rfl⟩⟩
      rcases g2 with rfl | rfl <;> omega
    obtain ⟨rfl, rfl⟩ := hM
    refine ⟨_, rfl, _, rfl, hf, _, 1, _, rfl, rfl, SqT.of hhf7, k1, _, _, rfl, rfl, .inr hb, _, rfl, hf, _, 0, _, rfl, rfl, SqT.of hhf7, k0, _, _, rfl, rfl, _, _, rfl, rfl, .inl ⟨by decide, by decide⟩, ?_⟩
    refine ⟨_, rfl, _, rfl, hf, _, 1, _, rfl, rfl, SqT.of hhf7, k1, _, _, rfl, rfl, .inr hb, _, _, rfl, rfl, ?_⟩
    have fin : 2 * (midN pl ts * h1 - h0) ≤ m * h1 := by rcases g2 with rfl | rfl <;> omega
    show Q (.bl (decide (2 * (midN pl ts * h1 - h0) ≤ m * h1))) H7
    rw [decide_eq_true fin]
    exact q _ S07
end
end Far

namespace Far
open PySem PySem.Spec PyProof.Rows L2
open C8 (pss_cut tCut)
open SX (S)
def spLaw (K : PySem.W.Frag) : Sp := fun vs H Q _ => ∃ (a : Addr) (ns : List Int), vs = [.ref a] ∧ SqL K H a (ns.map V.int) ∧ ns.length ≤ 63 ∧ ∀ H', Q (.bl true) H'
theorem SqL.same {K : PySem.W.Frag} {H H' : Hp} {a : Addr} {xs : List V} (h : SqL K H a xs) (s : Same H H') : SqL K H' a xs := by
  rcases h with (h | ⟨o, h⟩) | h
  · exact .inl (.inl (s _ _ h))
  · exact .inl (.inr ⟨o, s _ _ h⟩)
  · exact .inr h
theorem fine_one : Fine [[97]] [] := ⟨⟨[[97]], [], .one _, .refl _, .refl _⟩, fun l hl => by rw [List.mem_singleton.mp hl]; exact ⟨by decide, by decide, by decide⟩, by decide⟩
theorem fine_ba {k : Int} (h1 : 1 ≤ k) (h2 : k ≤ 1000000) : Fine [[98], [97]] [([97], [98], k)] := by
  refine ⟨⟨[[97], [98]], [([97], [98], k)], ?_, .swap _ _ _, .refl _⟩, fun l hl => ?_, by decide⟩
  · exact Grown.leaf (os := [[97]]) (es := []) (a := [97]) (b := [98]) (k := k) (.one _) (by decide) (by decide) (.inl rfl) h1 h2
  · rcases List.mem_cons.mp hl with z | z
    · rw [z]
      exact ⟨by decide, by decide, by decide⟩
    · rw [List.mem_singleton.mp z]
      exact ⟨by decide, by decide, by decide⟩
theorem fine_ab {k : Int} (h1 : 1 ≤ k) (h2 : k ≤ 1000000) : Fine [[97], [98]] [([98], [97], k)] := by
  refine ⟨⟨[[97], [98]], [([98], [97], k)], ?_, .refl _, .refl _⟩, fun l hl => ?_, by decide⟩
  · exact Grown.leaf (os := [[97]]) (es := []) (a := [97]) (b := [98]) (k := k) (.one _) (by decide) (by decide) (.inr rfl) h1 h2
  · rcases List.mem_cons.mp hl with z | z
    · rw [z]
      exact ⟨by decide, by decide, by decide⟩
    · rw [List.mem_singleton.mp z]
      exact ⟨by decide, by decide, by decide⟩
theorem d_one : dist [] [97] [97] = 0 := (fine_one.tree.dist_self _).1
theorem d_ba {k : Int} (h1 : 1 ≤ k) (h2 : k ≤ 1000000) : dist [([97], [98], k)] [98] [97] = k ∧ dist [([97], [98], k)] [97] [98] = k ∧ dist [([97], [98], k)] [97] [97] = 0 ∧ dist [([97], [98], k)] [98] [98] = 0 := by
  have F := (fine_ba h1 h2).tree
  have w1 : Way [([97], [98], k)] ([98] : Nm) [97] ([[98]] ++ [[97]]) (0 + k) := .snoc .nil (.inr (by simp)) (by decide)
  have w2 : Way [([97], [98], k)] ([97] : Nm) [98] ([[97]] ++ [[98]]) (0 + k) := .snoc .nil (.inl (by simp)) (by decide)
  exact ⟨by rw [(F.is_way w1).2]; omega, by rw [(F.is_way w2).2]; omega, (F.dist_self _).1, (F.dist_self _).1⟩
theorem d_ab {k : Int} (h1 : 1 ≤ k) (h2 : k ≤ 1000000) : dist [([98], [97], k)] [98] [97] = k ∧ dist [([98], [97], k)] [97] [98] = k := by
  have F := (fine_ab h1 h2).tree
  have w1 : Way [([98], [97], k)] ([98] : Nm) [97] ([[98]] ++ [[97]]) (0 + k) := .snoc .nil (.inl (by simp)) (by decide)
  have w2 : Way [([98], [97], k)] ([97] : Nm) [98] ([[97]] ++ [[98]]) (0 + k) := .snoc .nil (.inr (by simp)) (by decide)
  exact ⟨by rw [(F.is_way w1).2]; omega, by rw [(F.is_way w2).2]; omega⟩
end Far

namespace Far
open PySem PySem.Spec PyProof.Rows L2
open C8 (pss_cut tCut)
open SX (S)
abbrev s_law : Stmt := topS 35
abbrev N_law : List Str := ["script", "cell", "seed", "turn", "tree"]
theorem sc_law : FnScope N_law ["script"] (defScope s_law) := ⟨rfl, rfl, rfl, by decide +kernel, rfl, by decide +kernel, by decide +kernel⟩
section
variable {P : Program} {w : World} {K : PySem.W.Frag} {mg : Str → Option Value} {base : Heap}
theorem ok_law {f : Addr} {fd : FuncData} (F : Fun K "law" "law" s_law f fd) (T : TxtP mg) (C_law_folded : Cal P w K mg base 1 "_law_folded" (spFolded K)) (C_law_seed : Cal P w K mg base 1 "_law_seed" spSeed) (C_law_tree : Cal P w K mg base 3 "_law_tree" spTree) (Call_farthest : Cal P w K mg base 6 "all_farthest" spAllFarthest)
    (C_law_papers_right : Cal P w K mg base 7 "_law_papers_right" spYes) (C_law_far_right : Cal P w K mg base 7 "_law_far_right" spYes) (C_law_least_right : Cal P w K mg base 7 "_law_least_right" spYes) : FnOk P w K mg base CX0 8 f fd ["script"] (spLaw K) := by
  refine F.ok sc_law (fun vs H Q E h => ?_) (fun cdv A outer s H vs Q E hr h => ?_)
  · obtain ⟨a, ns, rfl, _⟩ := h
    rfl
  · obtain ⟨a, ns, rfl, hS, hl, q⟩ := h
    refine ⟨_, (pss_cut (ps_for PassesOwn.never rfl (pi_list (pe_op op_cat (pe_slice sl_list (pv 0) po_none (po_some pe_int)) (pe_lst (pa_cons (pe_c C_law_folded hr (by decide) rfl (pa_cons (pv 0) pa_nil)) pa_nil)))) (pg_name (i := 1) sc_law.nd rfl (.inl rfl))
        (pss_cons (ps_set (i := 2) sc_law.nd rfl (.inl rfl) (pe_c C_law_seed hr (by decide) rfl (pa_cons (pv 1) pa_nil)))
        (pss_one (ps_for PassesOwn.never rfl (pi_range1 (by rfl) T.range (pa_cons pe_int pa_nil)) (pg_name (i := 3) sc_law.nd rfl (.inl rfl))
          (pss_cons (ps_set (i := 4) sc_law.nd rfl (.inl rfl) (pe_c C_law_tree hr (by decide) rfl (pa_cons (pv 2) (pa_cons (pe_ix ix_list (pe_lst (pa_cons pe_int (pa_cons pe_int pa_nil))) (pv 3) (fun _ _ => rfl)) pa_nil))))
          (pss_cut (ps_if (PW.pt (pw_and (pt_cmpR op_lt (pe_callB call_len_seq (by rfl) T.len bt_len (pa_cons (pe_c Call_farthest hr (by decide) rfl (pa_cons (pv 4) pa_nil)) pa_nil)) pe_int (nomark _)) (pw_and1 (pt_not (pt_val (pe_c C_law_papers_right hr (by decide) rfl (pa_cons (pv 4) pa_nil)))))))
            (pss_one (ps_ret pe_bl))
            pss_nil)
          (pss_one (ps_if (PW.pt (pw_or (pt_not (pt_val (pe_c C_law_far_right hr (by decide) rfl (pa_cons (pv 4) pa_nil)))) (pw_or1 (pt_not (pt_val (pe_c C_law_least_right hr (by decide) rfl (pa_cons (pv 4) pa_nil)))))))
            (pss_one (ps_ret pe_bl))
            pss_nil))))))))
      (pss_one (ps_ret pe_bl))), ?_⟩
    refine ⟨fun σ' H' => True, ?_, fun σ' H' _ => q _⟩
    · refine ⟨_, rfl, 1, rfl, a, _, rfl, hS, fun p1 np1 => ?_⟩
      refine ⟨_, rfl, a, ns, rfl, SqL.same hS (same_new (Same.refl H) np1), hl, fun r r0 => ?_⟩
      refine ⟨(by show 1 ≤ sizeLine; decide), fun p2 np2 => ?_⟩
      have n12 : p1 ≠ p2 := ne_of_none upd_same np2
      have cl := cutV_length (ns.map V.int) none (some 1)
      rw [List.length_map] at cl
      refine ⟨p1, p2, _, _, rfl, rfl, by rw [upd_ne n12]; exact upd_same, upd_same, by rw [List.length_singleton]; exact sz_le (by omega), fun p3 np3 => ?_⟩
      have hcs : ∀ v ∈ cutV (ns.map V.int) none (some 1) ++ [V.int r], ∃ c : Int, v = .int c := fun v hv => by
        rcases List.mem_append.mp hv with z | z
        · obtain ⟨c, _, e⟩ := List.mem_map.mp (List.mem_of_mem_drop (List.mem_of_mem_take z))
          exact ⟨c, e.symm⟩
        · exact ⟨r, List.mem_singleton.mp z⟩
      have h3 : (upd (upd (upd H p1 (.lst (cutV (ns.map V.int) none (some 1)))) p2 (.lst [.int r])) p3 (.lst (cutV (ns.map V.int) none (some 1) ++ [.int r]))) p3 = some (.lst (cutV (ns.map V.int) none (some 1) ++ [.int r])) := upd_same
      generalize upd (upd (upd H p1 (.lst (cutV (ns.map V.int) none (some 1)))) p2 (.lst [.int r])) p3 (.lst (cutV (ns.map V.int) none (some 1) ++ [.int r])) = H3 at h3
      generalize cutV (ns.map V.int) none (some 1) ++ [V.int r] = cs at hcs h3
      refine ⟨p3, rfl, ⟨_, SqL.of h3⟩, for_list (K := K) (a := p3) (xs := cs) (fun i σ' H' => (∃ x1 x2 x3 x4, σ' = [some (.ref a), x1, x2, x3, x4]) ∧ Same H3 H') ⟨⟨_, _, _, _, rfl⟩, Same.refl _⟩ (fun i σ' H' _ hP => SqL.of (hP.2 _ _ h3)) (fun i v σ' H' hi hP => ?_) (fun σ' H' hP => trivial)⟩
      obtain ⟨⟨x1, x2, x3, x4, rfl⟩, SM⟩ := hP
      obtain ⟨c, rfl⟩ := hcs v (List.mem_of_getElem? hi)
      refine ⟨_, rfl, c, rfl, fun H5 d S5 d0 D5 => ?_⟩
      refine ⟨2, rfl, by decide, by decide, for_range (lo := 0) (n := (2 : Int).toNat) (fun j σ' H'' => (∃ x3 x4, σ' = [some (.ref a), some (.int c), some (.ref d), x3, x4]) ∧ SmX d H5 H'' ∧ SeedAt H'' d (1000 * j)) ⟨⟨_, _, rfl⟩, SmX.refl _, D5⟩ (fun j σ' H'' hj hP => ?_) (fun σ' H'' hP => ?_)⟩
      · obtain ⟨⟨x3, x4, rfl⟩, S6, D6⟩ := hP
        have hj : j < 2 := hj
        refine ⟨_, rfl, (by show 2 ≤ sizeLine; decide), fun p np => ?_⟩
        obtain ⟨v, hv, mv⟩ := atI_in (xs := [V.int 30, .int 6]) (i := 0 + (j : Int)) (by omega) (by simpa using (by omega : (0 : Int) + (j : Int) < 2))
        obtain ⟨most, rfl, k1, k2⟩ : ∃ m : Nat, v = .int m ∧ 1 ≤ m ∧ m ≤ 30 := by
          simp only [List.mem_cons, List.not_mem_nil, or_false] at mv
          rcases mv with e | e
          · exact ⟨30, e, by omega, by omega⟩
          · exact ⟨6, e, by omega, by omega⟩
        refine ⟨_, rfl, p, _, 0 + (j : Int), _, rfl, rfl, SqL.of upd_same, hv, ?_⟩
        refine ⟨d, _, most, rfl, D6.new np, by omega, k1, k2, fun H8 t pl ts it ok pll hDt hz S8 D8 => ?_⟩
        have fine : Fine pl ts := ⟨it, ok, by omega⟩
        have S9 := (S6.new (o := .lst [.int 30, .int 6]) np).trans S8
        have more : ∀ H', Same H8 H' → SmX d H5 H' ∧ SeedAt H' d (1000 * (j + 1)) := fun H' s => by
          refine ⟨S9.trans fun b o _ h => s b o h, ?_⟩
          obtain ⟨a1, f1, n1, m1, e1, e2⟩ := D8
          exact SeedAt.mono (n := 1000 * j + 1000) ⟨a1, f1, n1, m1, s _ _ e1, e2⟩ (by omega)
        refine ⟨fun σ' H' => σ' = [some (.ref a), some (.int c), some (.ref d), some (.int (0 + (j : Int))), some (.ref t)] ∧ Same H8 H', ?_, fun σ' H9 hM => ?_⟩
        · refine ⟨_, rfl, .ref t, pl, ts, rfl, hDt, fine, fun H9 r9 T9 hr9 => ?_⟩
          unfold allD at hr9
          obtain ⟨tq, as, rfl, htq, _⟩ := dt_tup hr9 fun ne => by
            cases hfar : farOf pl ts with
            | nil => rw [hfar] at ne; exact absurd rfl ne
            | cons z r => exact ⟨.tuple [.str (S z.2.1), .str (S z.2.2)], by simp, fun l q => nomatch q⟩
          refine ⟨tq, _, rfl, .inr (SqT.of htq), _, _, rfl, rfl, _, rfl, ?_⟩
          refine ite2 (fun _ => ?_) (fun _ => ?_)
          · exact ⟨_, rfl, .ref t, pl, ts, rfl, Dt.keep (TK.of T9) hDt, hz.same T9, fine, fun H10 T10 => ⟨_, rfl, iteF' rfl ⟨rfl, T9.trans T10⟩⟩⟩
          · exact iteF ⟨rfl, T9⟩
        obtain ⟨rfl, T9⟩ := hM
        refine ⟨_, rfl, .ref t, pl, ts, rfl, Dt.keep (TK.of T9) hDt, hz.same T9, fine, fun H10 T10 => ⟨_, rfl, iteF' rfl ?_⟩⟩
        have T910 := T9.trans T10
        refine ⟨_, rfl, .ref t, pl, ts, rfl, Dt.keep (TK.of T910) hDt, hz.same T910, fine, fun H11 T11 => ⟨_, rfl, iteF' rfl ?_⟩⟩
        obtain ⟨m1, m2⟩ := more _ (T910.trans T11)
        exact ⟨⟨_, _, rfl⟩, m1, m2⟩
      · obtain ⟨⟨x3, x4, rfl⟩, S6, D6⟩ := hP
        refine ⟨⟨_, _, _, _, rfl⟩, fun b o h => S6 b o (fun e => ?_) (S5 _ _ (SM _ _ h))⟩
        rw [e] at h
        rw [SM _ _ h] at d0
        cases d0
end
end Far

namespace Far
open PySem PySem.Spec PyProof.Rows L2
theorem all_mk {l : PySem.W.OpenLaw} {w : World} {K : PySem.W.Frag} {h : Heap} {mg : Str → Option Value} {fa f1 f2 f3 f4 f5 f6 f7 f8 f9 f10 f11 f12 f13 f14 f15 f16 f17 f18 f19 f20 f21 f22 f23 f24 f25 f26 f27 : Addr} (X : K.In h) (G : h.Ns mainGlobals mg) (hfa : mg "law" = some (.ref fa))
    {od1 od2 od3 od4 od5 od6 od7 od8 od9 od10 od11 od12 od13 od14 od15 od16 od17 od18 od19 od20 od21 od22 od23 od24 od25 od26 od27 an1 an2 an3 an4 an5 an6 an7 an8 an9 an10 an11 an12 an13 an14 an15 an16 an17 an18 an19 an20 an21 an22 an23 an24 an25 an26 an27 : Option Addr} {sl1 sl2 sl3 sl4 sl5 sl6 sl7 sl8 sl9 sl10 sl11 sl12 sl13 sl14 sl15 sl16 sl17 sl18 sl19 sl20 sl21 sl22 sl23 sl24 sl25 sl26 sl27 : Array (Option Value)} {oc1 oc2 oc3 oc4 oc5 oc6 oc7 oc8 oc9 oc10 oc11 oc12 oc13 oc14 oc15 oc16 oc17 oc18 oc19 oc20 oc21 oc22 oc23 oc24 oc25 oc26 oc27 kV1 kV2 kV3 kV4 kV5 kV6 kV7 kV8 kV9 kV10 kV11 kV12 kV13 kV14 kV15 kV16 kV17 kV18 kV19 kV20 kV21 kV22 kV23 kV24 kV25 kV26 kV27 dc1 dc2 dc3 dc4 dc5 dc6 dc7 dc8 dc9 dc10 dc11 dc12 dc13 dc14 dc15 dc16 dc17 dc18 dc19 dc20 dc21 dc22 dc23 dc24 dc25 dc26 dc27 pm1 pm2 pm3 pm4 pm5 pm6 pm7 pm8 pm9 pm10 pm11 pm12 pm13 pm14 pm15 pm16 pm17 pm18 pm19 pm20 pm21 pm22 pm23 pm24 pm25 pm26 pm27 cd1 cd2 cd3 cd4 cd5 cd6 cd7 cd8 cd9 cd10 cd11 cd12 cd13 cd14 cd15 cd16 cd17 cd18 cd19 cd20 cd21 cd22 cd23 cd24 cd25 cd26 cd27 ct1 ct2 ct3 ct4 ct5 ct6 ct7 ct8 ct9 ct10 ct11 ct12 ct13 ct14 ct15 ct16 ct17 ct18 ct19 ct20 ct21 ct22 ct23 ct24 ct25 ct26 ct27 : Value}
    (a1 : PySem.W.nsIn K mainGlobals "_law_folded" = some (some (.ref f1))) (l1 : K.lookup f1 = some ⟨oc1, od1, .func (PySem.W.fnOf "_law_folded" "_law_folded" (defArgs s_law_folded) (defBody s_law_folded) (defScope s_law_folded) .none kV1 dc1 pm1 an1 cd1 ct1), sl1⟩) (c1 : PySem.W.codeIn K cd1 "_law_folded" = true) (k1 : PySem.W.keepIn K (.ref f1) = true)
    (a2 : PySem.W.nsIn K mainGlobals "_law_seed" = some (some (.ref f2))) (l2 : K.lookup f2 = some ⟨oc2, od2, .func (PySem.W.fnOf "_law_seed" "_law_seed" (defArgs s_law_seed) (defBody s_law_seed) (defScope s_law_seed) .none kV2 dc2 pm2 an2 cd2 ct2), sl2⟩) (c2 : PySem.W.codeIn K cd2 "_law_seed" = true) (k2 : PySem.W.keepIn K (.ref f2) = true)
    (a3 : PySem.W.nsIn K mainGlobals "_law_draw" = some (some (.ref f3))) (l3 : K.lookup f3 = some ⟨oc3, od3, .func (PySem.W.fnOf "_law_draw" "_law_draw" (defArgs s_law_draw) (defBody s_law_draw) (defScope s_law_draw) .none kV3 dc3 pm3 an3 cd3 ct3), sl3⟩) (c3 : PySem.W.codeIn K cd3 "_law_draw" = true) (k3 : PySem.W.keepIn K (.ref f3) = true)
    (a4 : PySem.W.nsIn K mainGlobals "_law_name" = some (some (.ref f4))) (l4 : K.lookup f4 = some ⟨oc4, od4, .func (PySem.W.fnOf "_law_name" "_law_name" (defArgs s_law_name) (defBody s_law_name) (defScope s_law_name) .none kV4 dc4 pm4 an4 cd4 ct4), sl4⟩) (c4 : PySem.W.codeIn K cd4 "_law_name" = true) (k4 : PySem.W.keepIn K (.ref f4) = true)
    (a5 : PySem.W.nsIn K mainGlobals "_law_length" = some (some (.ref f5))) (l5 : K.lookup f5 = some ⟨oc5, od5, .func (PySem.W.fnOf "_law_length" "_law_length" (defArgs s_law_length) (defBody s_law_length) (defScope s_law_length) .none kV5 dc5 pm5 an5 cd5 ct5), sl5⟩) (c5 : PySem.W.codeIn K cd5 "_law_length" = true) (k5 : PySem.W.keepIn K (.ref f5) = true)
    (a6 : PySem.W.nsIn K mainGlobals "_law_tree" = some (some (.ref f6))) (l6 : K.lookup f6 = some ⟨oc6, od6, .func (PySem.W.fnOf "_law_tree" "_law_tree" (defArgs s_law_tree) (defBody s_law_tree) (defScope s_law_tree) .none kV6 dc6 pm6 an6 cd6 ct6), sl6⟩) (c6 : PySem.W.codeIn K cd6 "_law_tree" = true) (k6 : PySem.W.keepIn K (.ref f6) = true)
    (a7 : PySem.W.nsIn K mainGlobals "_ties_of_each" = some (some (.ref f7))) (l7 : K.lookup f7 = some ⟨oc7, od7, .func (PySem.W.fnOf "_ties_of_each" "_ties_of_each" (defArgs s_ties_of_each) (defBody s_ties_of_each) (defScope s_ties_of_each) .none kV7 dc7 pm7 an7 cd7 ct7), sl7⟩) (c7 : PySem.W.codeIn K cd7 "_ties_of_each" = true) (k7 : PySem.W.keepIn K (.ref f7) = true)
    (a8 : PySem.W.nsIn K mainGlobals "walk_from" = some (some (.ref f8))) (l8 : K.lookup f8 = some ⟨oc8, od8, .func (PySem.W.fnOf "walk_from" "walk_from" (defArgs s_walk_from) (defBody s_walk_from) (defScope s_walk_from) .none kV8 dc8 pm8 an8 cd8 ct8), sl8⟩) (c8 : PySem.W.codeIn K cd8 "walk_from" = true) (k8 : PySem.W.keepIn K (.ref f8) = true)
    (a9 : PySem.W.nsIn K mainGlobals "check_places" = some (some (.ref f9))) (l9 : K.lookup f9 = some ⟨oc9, od9, .func (PySem.W.fnOf "check_places" "check_places" (defArgs s_check_places) (defBody s_check_places) (defScope s_check_places) .none kV9 dc9 pm9 an9 cd9 ct9), sl9⟩) (c9 : PySem.W.codeIn K cd9 "check_places" = true) (k9 : PySem.W.keepIn K (.ref f9) = true)
    (a10 : PySem.W.nsIn K mainGlobals "lengths_from" = some (some (.ref f10))) (l10 : K.lookup f10 = some ⟨oc10, od10, .func (PySem.W.fnOf "lengths_from" "lengths_from" (defArgs s_lengths_from) (defBody s_lengths_from) (defScope s_lengths_from) .none kV10 dc10 pm10 an10 cd10 ct10), sl10⟩) (c10 : PySem.W.codeIn K cd10 "lengths_from" = true) (k10 : PySem.W.keepIn K (.ref f10) = true)
    (a11 : PySem.W.nsIn K mainGlobals "length_between" = some (some (.ref f11))) (l11 : K.lookup f11 = some ⟨oc11, od11, .func (PySem.W.fnOf "length_between" "length_between" (defArgs s_length_between) (defBody s_length_between) (defScope s_length_between) .none kV11 dc11 pm11 an11 cd11 ct11), sl11⟩) (c11 : PySem.W.codeIn K cd11 "length_between" = true) (k11 : PySem.W.keepIn K (.ref f11) = true)
    (a12 : PySem.W.nsIn K mainGlobals "way_between" = some (some (.ref f12))) (l12 : K.lookup f12 = some ⟨oc12, od12, .func (PySem.W.fnOf "way_between" "way_between" (defArgs s_way_between) (defBody s_way_between) (defScope s_way_between) .none kV12 dc12 pm12 an12 cd12 ct12), sl12⟩) (c12 : PySem.W.codeIn K cd12 "way_between" = true) (k12 : PySem.W.keepIn K (.ref f12) = true)
    (a13 : PySem.W.nsIn K mainGlobals "pairs_in_order" = some (some (.ref f13))) (l13 : K.lookup f13 = some ⟨oc13, od13, .func (PySem.W.fnOf "pairs_in_order" "pairs_in_order" (defArgs s_pairs_in_order) (defBody s_pairs_in_order) (defScope s_pairs_in_order) .none kV13 dc13 pm13 an13 cd13 ct13), sl13⟩) (c13 : PySem.W.codeIn K cd13 "pairs_in_order" = true) (k13 : PySem.W.keepIn K (.ref f13) = true)
    (a14 : PySem.W.nsIn K mainGlobals "farthest" = some (some (.ref f14))) (l14 : K.lookup f14 = some ⟨oc14, od14, .func (PySem.W.fnOf "farthest" "farthest" (defArgs s_farthest) (defBody s_farthest) (defScope s_farthest) .none kV14 dc14 pm14 an14 cd14 ct14), sl14⟩) (c14 : PySem.W.codeIn K cd14 "farthest" = true) (k14 : PySem.W.keepIn K (.ref f14) = true)
    (a15 : PySem.W.nsIn K mainGlobals "all_farthest" = some (some (.ref f15))) (l15 : K.lookup f15 = some ⟨oc15, od15, .func (PySem.W.fnOf "all_farthest" "all_farthest" (defArgs s_all_farthest) (defBody s_all_farthest) (defScope s_all_farthest) .none kV15 dc15 pm15 an15 cd15 ct15), sl15⟩) (c15 : PySem.W.codeIn K cd15 "all_farthest" = true) (k15 : PySem.W.keepIn K (.ref f15) = true)
    (a16 : PySem.W.nsIn K mainGlobals "farthest_of_each" = some (some (.ref f16))) (l16 : K.lookup f16 = some ⟨oc16, od16, .func (PySem.W.fnOf "farthest_of_each" "farthest_of_each" (defArgs s_farthest_of_each) (defBody s_farthest_of_each) (defScope s_farthest_of_each) .none kV16 dc16 pm16 an16 cd16 ct16), sl16⟩) (c16 : PySem.W.codeIn K cd16 "farthest_of_each" = true) (k16 : PySem.W.keepIn K (.ref f16) = true)
    (a17 : PySem.W.nsIn K mainGlobals "middles" = some (some (.ref f17))) (l17 : K.lookup f17 = some ⟨oc17, od17, .func (PySem.W.fnOf "middles" "middles" (defArgs s_middles) (defBody s_middles) (defScope s_middles) .none kV17 dc17 pm17 an17 cd17 ct17), sl17⟩) (c17 : PySem.W.codeIn K cd17 "middles" = true) (k17 : PySem.W.keepIn K (.ref f17) = true)
    (a18 : PySem.W.nsIn K mainGlobals "_fraction" = some (some (.ref f18))) (l18 : K.lookup f18 = some ⟨oc18, od18, .func (PySem.W.fnOf "_fraction" "_fraction" (defArgs s_fraction) (defBody s_fraction) (defScope s_fraction) .none kV18 dc18 pm18 an18 cd18 ct18), sl18⟩) (c18 : PySem.W.codeIn K cd18 "_fraction" = true) (k18 : PySem.W.keepIn K (.ref f18) = true)
    (a19 : PySem.W.nsIn K mainGlobals "_half_way" = some (some (.ref f19))) (l19 : K.lookup f19 = some ⟨oc19, od19, .func (PySem.W.fnOf "_half_way" "_half_way" (defArgs s_half_way) (defBody s_half_way) (defScope s_half_way) .none kV19 dc19 pm19 an19 cd19 ct19), sl19⟩) (c19 : PySem.W.codeIn K cd19 "_half_way" = true) (k19 : PySem.W.keepIn K (.ref f19) = true)
    (a20 : PySem.W.nsIn K mainGlobals "middle_point" = some (some (.ref f20))) (l20 : K.lookup f20 = some ⟨oc20, od20, .func (PySem.W.fnOf "middle_point" "middle_point" (defArgs s_middle_point) (defBody s_middle_point) (defScope s_middle_point) .none kV20 dc20 pm20 an20 cd20 ct20), sl20⟩) (c20 : PySem.W.codeIn K cd20 "middle_point" = true) (k20 : PySem.W.keepIn K (.ref f20) = true)
    (a21 : PySem.W.nsIn K mainGlobals "_is_point" = some (some (.ref f21))) (l21 : K.lookup f21 = some ⟨oc21, od21, .func (PySem.W.fnOf "_is_point" "_is_point" (defArgs s_is_point) (defBody s_is_point) (defScope s_is_point) .none kV21 dc21 pm21 an21 cd21 ct21), sl21⟩) (c21 : PySem.W.codeIn K cd21 "_is_point" = true) (k21 : PySem.W.keepIn K (.ref f21) = true)
    (a22 : PySem.W.nsIn K mainGlobals "_doubled_from" = some (some (.ref f22))) (l22 : K.lookup f22 = some ⟨oc22, od22, .func (PySem.W.fnOf "_doubled_from" "_doubled_from" (defArgs s_doubled_from) (defBody s_doubled_from) (defScope s_doubled_from) .none kV22 dc22 pm22 an22 cd22 ct22), sl22⟩) (c22 : PySem.W.codeIn K cd22 "_doubled_from" = true) (k22 : PySem.W.keepIn K (.ref f22) = true)
    (a23 : PySem.W.nsIn K mainGlobals "paper_shown" = some (some (.ref f23))) (l23 : K.lookup f23 = some ⟨oc23, od23, .func (PySem.W.fnOf "paper_shown" "paper_shown" (defArgs s_paper_shown) (defBody s_paper_shown) (defScope s_paper_shown) .none kV23 dc23 pm23 an23 cd23 ct23), sl23⟩) (c23 : PySem.W.codeIn K cd23 "paper_shown" = true) (k23 : PySem.W.keepIn K (.ref f23) = true)
    (a24 : PySem.W.nsIn K mainGlobals "_law_papers_right" = some (some (.ref f24))) (l24 : K.lookup f24 = some ⟨oc24, od24, .func (PySem.W.fnOf "_law_papers_right" "_law_papers_right" (defArgs s_law_papers_right) (defBody s_law_papers_right) (defScope s_law_papers_right) .none kV24 dc24 pm24 an24 cd24 ct24), sl24⟩) (c24 : PySem.W.codeIn K cd24 "_law_papers_right" = true) (k24 : PySem.W.keepIn K (.ref f24) = true)
    (a25 : PySem.W.nsIn K mainGlobals "_law_far_right" = some (some (.ref f25))) (l25 : K.lookup f25 = some ⟨oc25, od25, .func (PySem.W.fnOf "_law_far_right" "_law_far_right" (defArgs s_law_far_right) (defBody s_law_far_right) (defScope s_law_far_right) .none kV25 dc25 pm25 an25 cd25 ct25), sl25⟩) (c25 : PySem.W.codeIn K cd25 "_law_far_right" = true) (k25 : PySem.W.keepIn K (.ref f25) = true)
    (a26 : PySem.W.nsIn K mainGlobals "_law_least_right" = some (some (.ref f26))) (l26 : K.lookup f26 = some ⟨oc26, od26, .func (PySem.W.fnOf "_law_least_right" "_law_least_right" (defArgs s_law_least_right) (defBody s_law_least_right) (defScope s_law_least_right) .none kV26 dc26 pm26 an26 cd26 ct26), sl26⟩) (c26 : PySem.W.codeIn K cd26 "_law_least_right" = true) (k26 : PySem.W.keepIn K (.ref f26) = true)
    (a27 : PySem.W.nsIn K mainGlobals "law" = some (some (.ref f27))) (l27 : K.lookup f27 = some ⟨oc27, od27, .func (PySem.W.fnOf "law" "law" (defArgs s_law) (defBody s_law) (defScope s_law) .none kV27 dc27 pm27 an27 cd27 ct27), sl27⟩) (c27 : PySem.W.codeIn K cd27 "law" = true) (k27 : PySem.W.keepIn K (.ref f27) = true)
    (zenumerate : PySem.W.nsIn K mainGlobals "enumerate" = some none)
    (zint : PySem.W.nsIn K mainGlobals "int" = some none)
    (zlen : PySem.W.nsIn K mainGlobals "len" = some none)
    (zlist : PySem.W.nsIn K mainGlobals "list" = some none)
    (zmax : PySem.W.nsIn K mainGlobals "max" = some none)
    (zmin : PySem.W.nsIn K mainGlobals "min" = some none)
    (zrange : PySem.W.nsIn K mainGlobals "range" = some none)
    (ztuple : PySem.W.nsIn K mainGlobals "tuple" = some none)
    (zzip : PySem.W.nsIn K mainGlobals "zip" = some none)
    (zgcd : PySem.W.nsIn K mainGlobals "gcd" = some (some (.builtin "math.gcd"))) :
    ∃ fd : FuncData, (∀ (s : Shared) (v : Value), BindsTo s fd ⟨[v], []⟩ [("script", v)]) ∧ ∀ base : Heap, K.In base → base.Ns mainGlobals mg → FnOk l.prog w K mg base CX0 8 fa fd ["script"] (spLaw K) := by
  have e := hfa.symm.trans (PySem.W.mg_of X G a27)
  cases e
  have F1 := fun_mk (st := s_law_folded) l1 c1 k1
  have b1 := F1.binds (ps := ["script"]) fun _ _ _ _ _ _ us hl => match us, hl with | [_], _ => rfl
  have F2 := fun_mk (st := s_law_seed) l2 c2 k2
  have b2 := F2.binds (ps := ["cell"]) fun _ _ _ _ _ _ us hl => match us, hl with | [_], _ => rfl
  have F3 := fun_mk (st := s_law_draw) l3 c3 k3
  have b3 := F3.binds (ps := ["seed", "most"]) fun _ _ _ _ _ _ us hl => match us, hl with | [_, _], _ => rfl
  have F4 := fun_mk (st := s_law_name) l4 c4 k4
  have b4 := F4.binds (ps := ["seed", "names"]) fun _ _ _ _ _ _ us hl => match us, hl with | [_, _], _ => rfl
  have F5 := fun_mk (st := s_law_length) l5 c5 k5
  have b5 := F5.binds (ps := ["seed", "kind"]) fun _ _ _ _ _ _ us hl => match us, hl with | [_, _], _ => rfl
  have F6 := fun_mk (st := s_law_tree) l6 c6 k6
  have b6 := F6.binds (ps := ["seed", "most"]) fun _ _ _ _ _ _ us hl => match us, hl with | [_, _], _ => rfl
  have F7 := fun_mk (st := s_ties_of_each) l7 c7 k7
  have b7 := F7.binds (ps := ["tree"]) fun _ _ _ _ _ _ us hl => match us, hl with | [_], _ => rfl
  have F8 := fun_mk (st := s_walk_from) l8 c8 k8
  have b8 := F8.binds (ps := ["tree", "start"]) fun _ _ _ _ _ _ us hl => match us, hl with | [_, _], _ => rfl
  have F9 := fun_mk (st := s_check_places) l9 c9 k9
  have b9 := F9.binds (ps := ["tree", "names"]) fun _ _ _ _ _ _ us hl => match us, hl with | [_, _], _ => rfl
  have F10 := fun_mk (st := s_lengths_from) l10 c10 k10
  have b10 := F10.binds (ps := ["tree", "place"]) fun _ _ _ _ _ _ us hl => match us, hl with | [_, _], _ => rfl
  have F11 := fun_mk (st := s_length_between) l11 c11 k11
  have b11 := F11.binds (ps := ["tree", "one", "other"]) fun _ _ _ _ _ _ us hl => match us, hl with | [_, _, _], _ => rfl
  have F12 := fun_mk (st := s_way_between) l12 c12 k12
  have b12 := F12.binds (ps := ["tree", "one", "other"]) fun _ _ _ _ _ _ us hl => match us, hl with | [_, _, _], _ => rfl
  have F13 := fun_mk (st := s_pairs_in_order) l13 c13 k13
  have b13 := F13.binds (ps := ["tree"]) fun _ _ _ _ _ _ us hl => match us, hl with | [_], _ => rfl
  have F14 := fun_mk (st := s_farthest) l14 c14 k14
  have b14 := F14.binds (ps := ["tree"]) fun _ _ _ _ _ _ us hl => match us, hl with | [_], _ => rfl
  have F15 := fun_mk (st := s_all_farthest) l15 c15 k15
  have b15 := F15.binds (ps := ["tree"]) fun _ _ _ _ _ _ us hl => match us, hl with | [_], _ => rfl
  have F16 := fun_mk (st := s_farthest_of_each) l16 c16 k16
  have b16 := F16.binds (ps := ["tree"]) fun _ _ _ _ _ _ us hl => match us, hl with | [_], _ => rfl
  have F17 := fun_mk (st := s_middles) l17 c17 k17
  have b17 := F17.binds (ps := ["tree"]) fun _ _ _ _ _ _ us hl => match us, hl with | [_], _ => rfl
  have F18 := fun_mk (st := s_fraction) l18 c18 k18
  have b18 := F18.binds (ps := ["above", "below"]) fun _ _ _ _ _ _ us hl => match us, hl with | [_, _], _ => rfl
  have F19 := fun_mk (st := s_half_way) l19 c19 k19
  have b19 := F19.binds (ps := ["tree", "one", "other"]) fun _ _ _ _ _ _ us hl => match us, hl with | [_, _, _], _ => rfl
  have F20 := fun_mk (st := s_middle_point) l20 c20 k20
  have b20 := F20.binds (ps := ["tree"]) fun _ _ _ _ _ _ us hl => match us, hl with | [_], _ => rfl
  have F21 := fun_mk (st := s_is_point) l21 c21 k21
  have b21 := F21.binds (ps := ["tree", "point"]) fun _ _ _ _ _ _ us hl => match us, hl with | [_, _], _ => rfl
  have F22 := fun_mk (st := s_doubled_from) l22 c22 k22
  have b22 := F22.binds (ps := ["tree", "point"]) fun _ _ _ _ _ _ us hl => match us, hl with | [_, _], _ => rfl
  have F23 := fun_mk (st := s_paper_shown) l23 c23 k23
  have b23 := F23.binds (ps := ["tree", "number", "paper"]) fun _ _ _ _ _ _ us hl => match us, hl with | [_, _, _], _ => rfl
  have F24 := fun_mk (st := s_law_papers_right) l24 c24 k24
  have b24 := F24.binds (ps := ["tree"]) fun _ _ _ _ _ _ us hl => match us, hl with | [_], _ => rfl
  have F25 := fun_mk (st := s_law_far_right) l25 c25 k25
  have b25 := F25.binds (ps := ["tree"]) fun _ _ _ _ _ _ us hl => match us, hl with | [_], _ => rfl
  have F26 := fun_mk (st := s_law_least_right) l26 c26 k26
  have b26 := F26.binds (ps := ["tree"]) fun _ _ _ _ _ _ us hl => match us, hl with | [_], _ => rfl
  have F27 := fun_mk (st := s_law) l27 c27 k27
  have T0 : TxtG mg := ⟨PySem.W.mg_none_of X G zlen, PySem.W.mg_none_of X G zmax, PySem.W.mg_none_of X G zmin, PySem.W.mg_none_of X G zint, PySem.W.mg_none_of X G zrange, PySem.W.mg_none_of X G zlist, PySem.W.mg_none_of X G ztuple⟩
  have TW : TxtW mg := ⟨PySem.W.mg_none_of X G ztuple⟩
  have TQ : TxtQ mg := ⟨PySem.W.mg_none_of X G zlen, PySem.W.mg_none_of X G zrange, PySem.W.mg_none_of X G ztuple, PySem.W.mg_none_of X G zenumerate⟩
  have TM : TxtM mg := ⟨PySem.W.mg_none_of X G ztuple, PySem.W.mg_none_of X G zmax, PySem.W.mg_none_of X G zmin, PySem.W.mg_none_of X G zzip, PySem.W.mg_none_of X G zrange⟩
  have TH : TxtH mg := ⟨PySem.W.mg_none_of X G zlen, PySem.W.mg_of X G zgcd, PySem.W.mg_none_of X G zzip, PySem.W.mg_none_of X G zmin, PySem.W.mg_none_of X G zmax⟩
  have TP : TxtP mg := ⟨PySem.W.mg_none_of X G zenumerate, PySem.W.mg_none_of X G zmin, PySem.W.mg_none_of X G zmax, PySem.W.mg_none_of X G zzip, PySem.W.mg_none_of X G zlist, PySem.W.mg_none_of X G zlen, PySem.W.mg_none_of X G zrange⟩
  have C_law_folded : ∀ base : Heap, Cal l.prog w K mg base 1 "_law_folded" (spFolded K) := fun base => ⟨f1, _, _, ok_folded F1 T0, PySem.W.mg_of X G a1, k1, b1⟩
  have C_law_seed : ∀ base : Heap, Cal l.prog w K mg base 1 "_law_seed" spSeed := fun base => ⟨f2, _, _, ok_seed F2 T0, PySem.W.mg_of X G a2, k2, b2⟩
  have C_law_draw : ∀ base : Heap, Cal l.prog w K mg base 1 "_law_draw" spDraw := fun base => ⟨f3, _, _, ok_draw F3 T0, PySem.W.mg_of X G a3, k3, b3⟩
  have C_law_name : ∀ base : Heap, Cal l.prog w K mg base 2 "_law_name" spName := fun base => ⟨f4, _, _, ok_name F4 T0 (C_law_draw base), PySem.W.mg_of X G a4, k4, b4⟩
  have C_law_length : ∀ base : Heap, Cal l.prog w K mg base 2 "_law_length" spLength := fun base => ⟨f5, _, _, ok_length F5 (C_law_draw base), PySem.W.mg_of X G a5, k5, b5⟩
  have C_law_tree : ∀ base : Heap, Cal l.prog w K mg base 3 "_law_tree" spTree := fun base => ⟨f6, _, _, ok_tree F6 T0 (C_law_draw base) (C_law_name base) (C_law_length base), PySem.W.mg_of X G a6, k6, b6⟩
  have C_ties_of_each : ∀ base : Heap, Cal l.prog w K mg base 1 "_ties_of_each" spTies := fun base => ⟨f7, _, _, ok_ties_of_each F7, PySem.W.mg_of X G a7, k7, b7⟩
  have Cwalk_from : ∀ base : Heap, Cal l.prog w K mg base 2 "walk_from" spWalk := fun base => ⟨f8, _, _, ok_walk_from F8 (C_ties_of_each base), PySem.W.mg_of X G a8, k8, b8⟩
  have Ccheck_places : ∀ base : Heap, Cal l.prog w K mg base 1 "check_places" spCheck := fun base => ⟨f9, _, _, ok_check_places F9, PySem.W.mg_of X G a9, k9, b9⟩
  have Clengths_from : ∀ base : Heap, Cal l.prog w K mg base 3 "lengths_from" spLens := fun base => ⟨f10, _, _, ok_lengths_from F10 TW (Ccheck_places base) (Cwalk_from base), PySem.W.mg_of X G a10, k10, b10⟩
  have Clength_between : ∀ base : Heap, Cal l.prog w K mg base 3 "length_between" spLen := fun base => ⟨f11, _, _, ok_length_between F11 (Ccheck_places base) (Cwalk_from base), PySem.W.mg_of X G a11, k11, b11⟩
  have Cway_between : ∀ base : Heap, Cal l.prog w K mg base 3 "way_between" spWay := fun base => ⟨f12, _, _, ok_way_between F12 TW (Ccheck_places base) (Cwalk_from base), PySem.W.mg_of X G a12, k12, b12⟩
  have Cpairs_in_order : ∀ base : Heap, Cal l.prog w K mg base 4 "pairs_in_order" spPio := fun base => ⟨f13, _, _, ok_pio F13 TQ (Clengths_from base), PySem.W.mg_of X G a13, k13, b13⟩
  have Cfarthest : ∀ base : Heap, Cal l.prog w K mg base 5 "farthest" spFarthest := fun base => ⟨f14, _, _, ok_farthest F14 (Cpairs_in_order base), PySem.W.mg_of X G a14, k14, b14⟩
  have Call_farthest : ∀ base : Heap, Cal l.prog w K mg base 6 "all_farthest" spAllFarthest := fun base => ⟨f15, _, _, ok_all_farthest F15 TQ (Cpairs_in_order base) (Cfarthest base), PySem.W.mg_of X G a15, k15, b15⟩
  have Cfarthest_of_each : ∀ base : Heap, Cal l.prog w K mg base 4 "farthest_of_each" spFoe := fun base => ⟨f16, _, _, ok_foe F16 TM (Clengths_from base), PySem.W.mg_of X G a16, k16, b16⟩
  have Cmiddles : ∀ base : Heap, Cal l.prog w K mg base 5 "middles" spMid := fun base => ⟨f17, _, _, ok_middles F17 TM (Cfarthest_of_each base), PySem.W.mg_of X G a17, k17, b17⟩
  have C_fraction : ∀ base : Heap, Cal l.prog w K mg base 1 "_fraction" spFrac := fun base => ⟨f18, _, _, ok_fraction F18 TH, PySem.W.mg_of X G a18, k18, b18⟩
  have C_half_way : ∀ base : Heap, Cal l.prog w K mg base 4 "_half_way" spHalfWay := fun base => ⟨f19, _, _, ok_half_way F19 TH (Cway_between base) (Clength_between base) (C_fraction base), PySem.W.mg_of X G a19, k19, b19⟩
  have Cmiddle_point : ∀ base : Heap, Cal l.prog w K mg base 6 "middle_point" spMp := fun base => ⟨f20, _, _, ok_mp F20 (Cfarthest base) (C_half_way base) (C_fraction base), PySem.W.mg_of X G a20, k20, b20⟩
  have C_is_point : ∀ base : Heap, Cal l.prog w K mg base 3 "_is_point" spIsPt := fun base => ⟨f21, _, _, ok_is_point F21 TH, PySem.W.mg_of X G a21, k21, b21⟩
  have C_doubled_from : ∀ base : Heap, Cal l.prog w K mg base 4 "_doubled_from" spDbl := fun base => ⟨f22, _, _, ok_doubled F22 TH (Clength_between base) (Clengths_from base), PySem.W.mg_of X G a22, k22, b22⟩
  have Cpaper_shown : ∀ base : Heap, Cal l.prog w K mg base 5 "paper_shown" spShown := fun base => ⟨f23, _, _, ok_shown F23 TH (Clength_between base) (C_is_point base) (C_doubled_from base), PySem.W.mg_of X G a23, k23, b23⟩
  have C_law_papers_right : ∀ base : Heap, Cal l.prog w K mg base 7 "_law_papers_right" spYes := fun base => ⟨f24, _, _, ok_papers_right F24 (Cmiddle_point base) (Cfarthest base) (Call_farthest base) (Cpaper_shown base), PySem.W.mg_of X G a24, k24, b24⟩
  have C_law_far_right : ∀ base : Heap, Cal l.prog w K mg base 7 "_law_far_right" spYes := fun base => ⟨f25, _, _, ok_far_right F25 TP (Cmiddle_point base) (Cfarthest base) (Cfarthest_of_each base) (Clengths_from base) (Clength_between base), PySem.W.mg_of X G a25, k25, b25⟩
  have C_law_least_right : ∀ base : Heap, Cal l.prog w K mg base 7 "_law_least_right" spYes := fun base => ⟨f26, _, _, ok_least_right F26 TP (Cmiddle_point base) (Cmiddles base) (Cfarthest_of_each base), PySem.W.mg_of X G a26, k26, b26⟩
  exact ⟨_, fun s v => .of_eq rfl, fun base _ _ => ok_law F27 TP (C_law_folded base) (C_law_seed base) (C_law_tree base) (Call_farthest base) (C_law_papers_right base) (C_law_far_right base) (C_law_least_right base)⟩
end Far
open PySem PySem.W PyProof.Rows in
set_option maxRecDepth 100000 in
set_option maxHeartbeats 0 in
theorem PySem.Challenge.cw_farplaces_k14_whole_middles_holds : PySem.Challenge.rw_farplaces_k14_whole_middles.Holds := by
  w_on; o_law; k_head; (case hw => w_witness2)
  k_fill
  refine L2.walk_of (l := PySem.Challenge.rw_farplaces_k14_whole_middles) (n := 63) (k := 8) (x := "script") (CX := fun _ => L2.CX0) (sp := fun w => Far.spLaw _) rfl (by decide) rfl ⟨rfl, by decide, by decide⟩ (fun w h Y => PySem.W.kIn_of Y) ?F (fun _ _ a ns hl _ hS => ⟨a, ns, rfl, hS, hl, fun _ => rfl⟩) (fun _ _ _ _ _ h => h)
  case F =>
    intro w mg fa h KX G hmg
    refine' Far.all_mk KX G hmg ?a1 ?l1 ?c1 ?k1 ?a2 ?l2 ?c2 ?k2 ?a3 ?l3 ?c3 ?k3 ?a4 ?l4 ?c4 ?k4 ?a5 ?l5 ?c5 ?k5 ?a6 ?l6 ?c6 ?k6 ?a7 ?l7 ?c7 ?k7 ?a8 ?l8 ?c8 ?k8 ?a9 ?l9 ?c9 ?k9 ?a10 ?l10 ?c10 ?k10 ?a11 ?l11 ?c11 ?k11 ?a12 ?l12 ?c12 ?k12 ?a13 ?l13 ?c13 ?k13 ?a14 ?l14 ?c14 ?k14 ?a15 ?l15 ?c15 ?k15 ?a16 ?l16 ?c16 ?k16 ?a17 ?l17 ?c17 ?k17 ?a18 ?l18 ?c18 ?k18 ?a19 ?l19 ?c19 ?k19 ?a20 ?l20 ?c20 ?k20 ?a21 ?l21 ?c21 ?k21 ?a22 ?l22 ?c22 ?k22 ?a23 ?l23 ?c23 ?k23 ?a24 ?l24 ?c24 ?k24 ?a25 ?l25 ?c25 ?k25 ?a26 ?l26 ?c26 ?k26 ?a27 ?l27 ?c27 ?k27 ?zenumerate ?zint ?zlen ?zlist ?zmax ?zmin ?zrange ?ztuple ?zzip ?zgcd
    (case a1 => k_is); (case l1 => k_is); (case c1 => k_is); (case k1 => k_is); (case a2 => k_is); (case l2 => k_is); (case c2 => k_is); (case k2 => k_is); (case a3 => k_is); (case l3 => k_is); (case c3 => k_is); (case k3 => k_is); (case a4 => k_is); (case l4 => k_is); (case c4 => k_is); (case k4 => k_is); (case a5 => k_is); (case l5 => k_is); (case c5 => k_is); (case k5 => k_is); (case a6 => k_is); (case l6 => k_is); (case c6 => k_is); (case k6 => k_is); (case a7 => k_is); (case l7 => k_is); (case c7 => k_is); (case k7 => k_is); (case a8 => k_is); (case l8 => k_is); (case c8 => k_is); (case k8 => k_is); (case a9 => k_is); (case l9 => k_is); (case c9 => k_is); (case k9 => k_is); (case a10 => k_is); (case l10 => k_is); (case c10 => k_is); (case k10 => k_is); (case a11 => k_is); (case l11 => k_is); (case c11 => k_is); (case k11 => k_is); (case a12 => k_is); (case l12 => k_is); (case c12 => k_is); (case k12 => k_is); (case a13 => k_is); (case l13 => k_is); (case c13 => k_is); (case k13 => k_is); (case a14 => k_is); (case l14 => k_is); (case c14 => k_is); (case k14 => k_is); (case a15 => k_is); (case l15 => k_is); (case c15 => k_is); (case k15 => k_is); (case a16 => k_is); (case l16 => k_is); (case c16 => k_is); (case k16 => k_is); (case a17 => k_is); (case l17 => k_is); (case c17 => k_is); (case k17 => k_is); (case a18 => k_is); (case l18 => k_is); (case c18 => k_is); (case k18 => k_is); (case a19 => k_is); (case l19 => k_is); (case c19 => k_is); (case k19 => k_is); (case a20 => k_is); (case l20 => k_is); (case c20 => k_is); (case k20 => k_is); (case a21 => k_is); (case l21 => k_is); (case c21 => k_is); (case k21 => k_is); (case a22 => k_is); (case l22 => k_is); (case c22 => k_is); (case k22 => k_is); (case a23 => k_is); (case l23 => k_is); (case c23 => k_is); (case k23 => k_is); (case a24 => k_is); (case l24 => k_is); (case c24 => k_is); (case k24 => k_is); (case a25 => k_is); (case l25 => k_is); (case c25 => k_is); (case k25 => k_is); (case a26 => k_is); (case l26 => k_is); (case c26 => k_is); (case k26 => k_is); (case a27 => k_is); (case l27 => k_is); (case c27 => k_is); (case k27 => k_is); (case zenumerate => k_is); (case zint => k_is); (case zlen => k_is); (case zlist => k_is); (case zmax => k_is); (case zmin => k_is); (case zrange => k_is); (case ztuple => k_is); (case zzip => k_is); (case zgcd => k_is)

