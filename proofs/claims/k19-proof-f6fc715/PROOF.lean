import PyProof.Rows.All
import Wide.All
import OpenK.AllK
import Wide.FinOn
import HandS.ForMost
import HandS.Wide
import HandS.Codes
import HandS.Conv
import HandS.TupAny
import HandS.Style
import HandS.IsInst
import HandS.FStr
import HandS.DictComp
import HandS.NoneIn
import HandS.WideBits
import KE.IntBitsLaws
import HandS.List
import KE.KTupSum
import KE.GoesMore
import PyProof.WalkInts
import HandS.Zip
import HandS.Exc
import HandS.ExcInit
import HandS.ClsMeth
import HandS.ExcValue
import HandS.TryOnly
import HandS.ExcIs
import HandS.ExcField
import HandS.WordsExc
import HandS.RaiseMore
import PyProof.ExcBaseAll.ValueError
import HandS.Lambda
import HandS.SortKw
import KE.SortKeyHeap
import KE.KSortKey
import KE.SortData
import HandS.Sort
import KE.DataMinKey
import HandS.DeepEq
import HandS.SortInts
import HandS.Finally
import HandS.More
import KE.KEqDict
import HandS.ListItems
import KE.GoesEnum
import PyProof.EnumMake
import HandS.EndTab
import KE.KNest
import KE.KNestM
import PySem.Challenge.RW_farplaces_k19_best_and_worst_joins
set_option Elab.async false
set_option linter.all false
set_option maxRecDepth 100000
set_option maxHeartbeats 8000000
namespace Far
open PySem PySem.Spec PyProof.Rows L2
open C8 (pss_cut tCut)
open SX (S)
def topS (i : Nat) : Stmt := PySem.Challenge.pw_farplaces_k19_best_and_worst_joins.main.body.getD i (.Pass ⟨0, 0, 0, 0⟩)

theorem hd_of {A : Around} {k : Nat} (hr : Room k A) (h : 1 ≤ k) : A.units + 64 < cLine := by
  have := hr.units
  omega

/-- a def of the module that may be called by its name -/
structure Cal (P : Program) (w : World) (K : PySem.W.Frag) (mg : Str → Option Value) (base : Heap) (k : Nat) (x : Str) (sp : Sp) : Prop where
  ex : ∃ (f : Addr) (fd : FuncData) (ps : List Str), FnOk P w K mg base CX0 k f fd ps sp ∧ mg x = some (.ref f) ∧ PySem.W.keepIn K (.ref f) = true ∧ Binds K fd ps []
theorem pe_c {X : Cx} {k j : Nat} {x : Str} {sp : Sp} {p pos : Pos} {e : Expr} {es : List Expr} {t : TA} (c : Cal X.prog X.w X.K X.mg X.base k x sp) (hr : Room j X.A) (hk : k ≤ j) (hg : Gl X x) (ha : PA X (e :: es) t)
    (hdb : (x == ("__debug__" : Str)) = false := by decide) (he : starEach (e :: es) X.env = (false, eval e X.env) :: starEach es X.env := by rfl) (hpl : (backTo pos (starEach es X.env)).any (·.1) = false := by rfl) :
    PE X (.Call (.Name x p) (e :: es) [] pos) (tCall sp [] E0 t) := by
  obtain ⟨f, fd, ps, F, hm, kp, b⟩ := c.ex
  exact pe_call F (hr.mono hk) hg hm kp b .nil pass0 ha hdb he hpl

theorem bt_len : bootBuiltins ("len" : Str) = some (.builtin "len") := by decide +kernel
theorem bt_sum : bootBuiltins ("sum" : Str) = some (.builtin "sum") := by decide +kernel
theorem bt_max : bootBuiltins ("max" : Str) = some (.builtin "max") := by decide +kernel
theorem bt_all : bootBuiltins ("all" : Str) = some (.builtin "all") := by decide +kernel
theorem bt_isinstance : bootBuiltins ("isinstance" : Str) = some (.builtin "isinstance") := by decide +kernel
theorem bt_int : bootBuiltins ("int" : Str) = some (.type "int") := by decide +kernel
theorem bt_str : bootBuiltins ("str" : Str) = some (.type "str") := by decide +kernel
theorem bt_tuple : bootBuiltins ("tuple" : Str) = some (.type "tuple") := by decide +kernel
theorem bt_bool : bootBuiltins ("bool" : Str) = some (.type "bool") := by decide +kernel
theorem bt_list : bootBuiltins ("list" : Str) = some (.type "list") := by decide +kernel
/-- rules with the written part named, for use within a comprehension -/
def rLenV (K : PySem.W.Frag) : List V → Hp → VK → Prop := fun xs H Q => ∃ x n, xs = [x] ∧ LenV K x H n ∧ Q (.int n) H
theorem lenK {X : Cx} {K : PySem.W.Frag} (e : X.K = K := by rfl) : CallR X (.builtin "len") (rLenV K) := by
  subst e
  exact call_len
theorem ixl {X : Cx} {K : PySem.W.Frag} (e : X.K = K := by rfl) : IxR X (rIxL K) := by
  subst e
  exact ix_list
theorem ixt {X : Cx} {K : PySem.W.Frag} (e : X.K = K := by rfl) : IxR X (rIxT K) := by
  subst e
  exact ix_tup
/-- what the module's names hold that are built-ins, and its constants -/
structure Txt (mg : Str → Option Value) : Prop where
  len : mg "len" = none
  sum : mg "sum" = none
  range : mg "range" = none
  int : mg "int" = none
  max : mg "max" = none
  list : mg "list" = none
  tuple : mg "tuple" = none

/-- all that stood stands as it was, but for the one object -/
def SmX (d : Addr) (H H' : Hp) : Prop := ∀ b o, b ≠ d → H b = some o → H' b = some o
theorem SmX.refl {d : Addr} (H : Hp) : SmX d H H := fun _ _ _ h => h
theorem SmX.trans {d : Addr} {H H1 H2 : Hp} (a : SmX d H H1) (b : SmX d H1 H2) : SmX d H H2 := fun x o n h => b x o n (a x o n h)
theorem SmX.new {d : Addr} {H H1 : Hp} {p : Addr} {o : HO} (a : SmX d H H1) (n : H1 p = none) : SmX d H (upd H1 p o) := fun x u nx h => by
  rw [upd_ne (ne_of_none (a x u nx h) n)]
  exact a x u nx h
theorem SmX.mut {d : Addr} {H H1 : Hp} {o : HO} (a : SmX d H H1) : SmX d H (upd H1 d o) := fun x u nx h => by
  rw [upd_ne nx]
  exact a x u nx h
/-- an object that the first heap does not know may change -/
theorem SmX.put {d : Addr} {H H1 : Hp} {p : Addr} {o : HO} (a : SmX d H H1) (n : H p = none) : SmX d H (upd H1 p o) := fun x u nx h => by
  rw [upd_ne (ne_of_none h n)]
  exact a x u nx h

/-- the deck at d, its cells at c: at most n were mixed -/
def DeckAt (H : Hp) (d c : Addr) (n : Nat) : Prop := ∃ (cs : List Int) (i l m z : Int), H d = some (.lst [.ref c, .int i, .int l, .int m, .int z]) ∧ H c = some (.lst (cs.map V.int)) ∧ c ≠ d ∧ cs.length ≤ 63 ∧ 0 ≤ i ∧ i ≤ 63 ∧ 0 ≤ l ∧ 0 ≤ m ∧ m ≤ n
theorem DeckAt.new {H : Hp} {d c p : Addr} {o : HO} {n : Nat} (h : DeckAt H d c n) (np : H p = none) : DeckAt (upd H p o) d c n := by
  obtain ⟨cs, i, l, m, z, h1, h2, h3⟩ := h
  exact ⟨cs, i, l, m, z, by rw [upd_ne (ne_of_none h1 np)]; exact h1, by rw [upd_ne (ne_of_none h2 np)]; exact h2, h3⟩
theorem DeckAt.put {H : Hp} {d c p : Addr} {o : HO} {n : Nat} (h : DeckAt H d c n) (nd : p ≠ d) (nc : p ≠ c) : DeckAt (upd H p o) d c n := by
  obtain ⟨cs, i, l, m, z, h1, h2, h3⟩ := h
  exact ⟨cs, i, l, m, z, by rw [upd_ne nd.symm]; exact h1, by rw [upd_ne nc.symm]; exact h2, h3⟩
theorem DeckAt.nd {H : Hp} {d c p : Addr} {n : Nat} (h : DeckAt H d c n) (np : H p = none) : p ≠ d := fun e => by
  obtain ⟨_, _, _, _, _, h1, _⟩ := h
  rw [e, h1] at np
  cases np
theorem DeckAt.nc {H : Hp} {d c p : Addr} {n : Nat} (h : DeckAt H d c n) (np : H p = none) : p ≠ c := fun e => by
  obtain ⟨_, _, _, _, _, _, h2, _⟩ := h
  rw [e, h2] at np
  cases np
theorem DeckAt.mono {H : Hp} {d c : Addr} {n m : Nat} (h : DeckAt H d c n) (le : n ≤ m) : DeckAt H d c m := by
  obtain ⟨cs, i, l, m', z, h1, h2, h3, h4, h5, h6, h7, h8, h9⟩ := h
  exact ⟨cs, i, l, m', z, h1, h2, h3, h4, h5, h6, h7, h8, by omega⟩
theorem SmX.free {d : Addr} {H H' : Hp} {p : Addr} (a : SmX d H H') (n : H' p = none) (nd : p ≠ d) : H p = none := by
  cases q : H p with
  | none => rfl
  | some o =>
    rw [a p o nd q] at n
    cases n

/-- the signs of a name -/
def NameOk (l : List Nat) : Prop := 1 ≤ l.length ∧ l.length ≤ 8 ∧ ∀ c ∈ l, 97 ≤ c ∧ c ≤ 122
theorem sz_le {n : Nat} (h : n ≤ 100000) : n ≤ sizeLine := Nat.le_trans h (by decide)
theorem sz_lt {n : Nat} (h : n ≤ 100000) : n < sizeLine := Nat.lt_of_le_of_lt h (by decide)
theorem atI_in {α : Type} {xs : List α} {i : Int} (h0 : 0 ≤ i) (h1 : i < xs.length) : ∃ v, atI xs i = some v ∧ v ∈ xs := by
  have e : i = ((i.toNat : Nat) : Int) := by omega
  have l : i.toNat < xs.length := by omega
  refine ⟨xs[i.toNat], ?_, List.getElem_mem l⟩
  have q := atI_nat (List.getElem?_eq_getElem l)
  rwa [← e] at q
theorem S_of (z : Str) : ∃ l, z = S l := ⟨z.cps.toList, (SX.S_tl z).symm⟩
theorem join_none : ∀ ys : List (List Nat), TL.joinL [] ys = ys.flatten
  | [] => rfl
  | [x] => by simp [TL.joinL]
  | x :: y :: r => by
    have ih := join_none (y :: r)
    show x ++ ([] ++ TL.joinL [] (y :: r)) = x ++ (y :: r).flatten
    rw [ih]
    rfl
theorem flat_one (cs : List Nat) : (cs.map fun c => [c]).flatten = cs := by
  induction cs with
  | nil => rfl
  | cons c r ih => rw [List.map_cons, List.flatten_cons, ih]; rfl
theorem one_sum' (cs : List Nat) : ((cs.map fun c => S [c]).map (·.length)).sum = cs.length := by
  induction cs with
  | nil => rfl
  | cons c r ih =>
    rw [List.map_cons, List.map_cons, List.sum_cons, ih, List.length_cons, SX.S_len]
    show 1 + r.length = r.length + 1
    omega
theorem bt_min : bootBuiltins ("min" : Str) = some (.builtin "min") := by decide +kernel
theorem same_new {H H1 : Hp} {p : Addr} {o : HO} (a : Same H H1) (n : H1 p = none) : Same H (upd H1 p o) := fun x u h => by
  rw [upd_ne (ne_of_none (a x u h) n)]
  exact a x u h
theorem same_put {H H1 : Hp} {p : Addr} {o : HO} (a : Same H H1) (n : H p = none) : Same H (upd H1 p o) := fun x u h => by
  rw [upd_ne (ne_of_none h n)]
  exact a x u h
end Far

namespace Far
open PySem PySem.Spec PyProof.Rows L2
open C8 (pss_cut tCut)
open SX (S)
theorem bt_abs : bootBuiltins ("abs" : Str) = some (.builtin "abs") := by decide +kernel
structure TxtG (mg : Str → Option Value) : Prop where
  len : mg "len" = none
  max : mg "max" = none
  min : mg "min" = none
  int : mg "int" = none
  range : mg "range" = none
  list : mg "list" = none
  tuple : mg "tuple" = none
  abs : mg "abs" = none
/-- the deck at d, drawn from n times at most -/
def SeedAt (H : Hp) (d : Addr) (n : Nat) : Prop := ∃ a m k : Int, H d = some (.lst [.int a, .int m, .int k]) ∧ 0 ≤ a ∧ 0 ≤ k ∧ k ≤ n ∧ 0 ≤ m ∧ m < 1999999871
theorem SeedAt.new {H : Hp} {d p : Addr} {o : HO} {n : Nat} (h : SeedAt H d n) (np : H p = none) : SeedAt (upd H p o) d n := by
  obtain ⟨a, f, k, h1, h2⟩ := h
  exact ⟨a, f, k, by rw [upd_ne (ne_of_none h1 np)]; exact h1, h2⟩
theorem SeedAt.put {H : Hp} {d p : Addr} {o : HO} {n : Nat} (h : SeedAt H d n) (nd : p ≠ d) : SeedAt (upd H p o) d n := by
  obtain ⟨a, f, k, h1, h2⟩ := h
  exact ⟨a, f, k, by rw [upd_ne nd.symm]; exact h1, h2⟩
theorem SeedAt.nd {H : Hp} {d p : Addr} {n : Nat} (h : SeedAt H d n) (np : H p = none) : p ≠ d := fun e => by
  obtain ⟨a, f, k, h1, _⟩ := h
  rw [e, h1] at np
  cases np
theorem SeedAt.mono {H : Hp} {d : Addr} {n m : Nat} (h : SeedAt H d n) (l : n ≤ m) : SeedAt H d m := by
  obtain ⟨a, f, k, h1, h2, h3, h4, h5⟩ := h
  exact ⟨a, f, k, h1, h2, h3, by omega, h5⟩
theorem SeedAt.lst {H : Hp} {d : Addr} {n : Nat} (h : SeedAt H d n) : ∃ xs, H d = some (.lst xs) := by
  obtain ⟨_, _, _, h1, _⟩ := h
  exact ⟨_, h1⟩
theorem cut_all (xs : List V) (h : xs.length ≤ 63) : cutV xs none (some 63) = xs := by
  unfold cutV
  rw [HT.sIx_none, show HT.sIx xs.length xs.length (some 63) = min 63 xs.length from HT.sIx_nat _ _ 63, Nat.min_eq_right h, List.drop_zero, Nat.sub_zero]
  exact List.take_length
theorem grow_bits {g c : Int} {i : Nat} (hg : Builtin.Int.intBits g ≤ 1048576 + 206 * i) (hc : Builtin.Int.intBits c ≤ 1048576) : Builtin.Int.intBits (g * 2 ^ 205 + (if c < 0 then -c else c)) ≤ 1048576 + 206 * (i + 1) := by
  have h1 := PySem.intBits_le_iff.mp hg
  have h2 := PySem.intBits_le_iff.mp hc
  refine PySem.intBits_le_iff.mpr ?_
  have e : (if c < 0 then -c else c).natAbs = c.natAbs := by split <;> omega
  have a1 : (g * 2 ^ 205 + (if c < 0 then -c else c)).natAbs ≤ (g * 2 ^ 205).natAbs + c.natAbs := by
    rw [← e]
    exact Int.natAbs_add_le _ _
  have a2 : (g * 2 ^ 205 : Int).natAbs = g.natAbs * 2 ^ 205 := by rw [Int.natAbs_mul]; rfl
  rw [a2] at a1
  have a3 : 1048576 + 206 * (i + 1) = (1048576 + 206 * i) + 206 := by omega
  rw [a3, Nat.pow_add]
  have a4 : (2 : Nat) ^ 1048576 ≤ 2 ^ (1048576 + 206 * i) := Nat.pow_le_pow_right (by decide) (by omega)
  have a5 : (2 : Nat) ^ 206 = 2 ^ 205 * 2 := rfl
  generalize (2 : Nat) ^ (1048576 + 206 * i) = k at *
  have a6 : g.natAbs * 2 ^ 205 ≤ (k - 1) * 2 ^ 205 := Nat.mul_le_mul_right _ (by omega)
  have a7 : (k - 1) * 2 ^ 205 + k ≤ k * 2 ^ 206 := by
    have k0 : 0 < k := by omega
    obtain ⟨j, rfl⟩ : ∃ j, k = j + 1 := ⟨k - 1, by omega⟩
    rw [Nat.add_sub_cancel, a5]
    generalize (2 : Nat) ^ 205 = m at *
    have m0 : 1 ≤ m := by
      rcases Nat.eq_zero_or_pos m with z | z
      · rw [z] at a5
        exact absurd a5 (by decide)
      · exact z
    have : (j + 1) * (m * 2) = j * m + (j * m + 2 * m) := by
      rw [Nat.add_mul, Nat.mul_comm m 2, ← Nat.mul_assoc, Nat.mul_comm j 2, Nat.mul_assoc]
      omega
    rw [this]
    have : j ≤ j * m := Nat.le_mul_of_pos_right _ m0
    omega
  omega
abbrev s_law_deck : Stmt := topS 19
abbrev N_law_deck : List Str := ["script", "great", "mixed", "cell"]
theorem sc_law_deck : FnScope N_law_deck ["script"] (defScope s_law_deck) := ⟨rfl, rfl, rfl, by decide +kernel, rfl, by decide +kernel, by decide +kernel⟩
section
variable {P : Program} {w : World} {K : PySem.W.Frag} {mg : Str → Option Value} {base : Heap}
def spDeck (K : PySem.W.Frag) : Sp := fun vs H Q _ => ∃ (a : Addr) (ns : List Int), vs = [.ref a] ∧ SqL K H a (ns.map V.int) ∧ ns.length ≤ 63 ∧ (∀ z ∈ ns, Builtin.Int.intBits z ≤ 1048576) ∧ ∀ (H' : Hp) (d : Addr), Same H H' → H d = none → SeedAt H' d 0 → Q (.ref d) H'
theorem ok_deck {f : Addr} {fd : FuncData} (F : Fun K "_law_deck" "_law_deck" s_law_deck f fd) (T : TxtG mg) : FnOk P w K mg base CX0 1 f fd ["script"] (spDeck K) := by
  refine F.ok sc_law_deck (fun vs H Q E h => ?_) (fun cdv A outer s H vs Q E hr h => ?_)
  · obtain ⟨a, ns, rfl, _⟩ := h
    rfl
  · obtain ⟨a, ns, rfl, hS, hl, hb, q⟩ := h
    refine ⟨_, (pss_cons (ps_set (i := 1) sc_law_deck.nd rfl (.inl rfl) pe_int)
      (pss_cons (ps_set (i := 2) sc_law_deck.nd rfl (.inl rfl) (pe_op op_add (pe_op op_mul pe_int (pe_callB call_len_seq (by rfl) T.len bt_len (pa_cons (pv 0) pa_nil))) pe_int))
      (pss_cut (ps_for PassesOwn.never rfl (pi_list (pe_slice sl_list (pv 0) po_none (po_some pe_int))) (pg_name (i := 3) sc_law_deck.nd rfl (.inl rfl))
        (pss_one (ps_if (pt_cmpR op_ge (pe_callB call_abs (by rfl) T.abs bt_abs (pa_cons (pv 3) pa_nil)) (pe_op op_pow pe_int pe_int) (nomark _))
          (pss_one (ps_set (i := 1) sc_law_deck.nd rfl (.inl rfl) (pe_op op_add (pe_op op_shlN (pv 1) pe_int) (pe_callB call_abs (by rfl) T.abs bt_abs (pa_cons (pv 3) pa_nil)))))
          (pss_one (ps_set (i := 2) sc_law_deck.nd rfl (.inl rfl) (pe_op op_mod (pe_op op_add (pe_op op_mul (pv 2) pe_int) (pv 3)) pe_int))))))
      (pss_one (ps_ret (pe_lst (pa_cons (pv 1) (pa_cons (pv 2) (pa_cons pe_int pa_nil))))))))), ?_⟩
    have hl' : (ns.map V.int).length ≤ 63 := by rw [List.length_map]; exact hl
    refine ⟨_, rfl, a, _, rfl, .inl hS, _, _, rfl, rfl, .inl ⟨by omega, by omega⟩, _, _, rfl, rfl, ?_⟩
    refine ⟨fun σ' H' => ∃ (g m : Int) (x3 : Option V), σ' = [some (.ref a), some (.int g), some (.int m), x3] ∧ Same H H' ∧ 0 ≤ g ∧ 0 ≤ m ∧ m < 1999999871, ?_, fun σ' H' hM => ?_⟩
    · refine ⟨_, rfl, 63, rfl, a, _, rfl, hS, fun c nc => ?_⟩
      rw [cut_all _ hl']
      have S1 := same_new (o := .lst (ns.map V.int)) (Same.refl H) nc
      have hc : (upd H c (.lst (ns.map V.int))) c = some (.lst (ns.map V.int)) := upd_same
      generalize upd H c (.lst (ns.map V.int)) = H1 at S1 hc
      refine ⟨c, rfl, ⟨_, SqL.of hc⟩, for_list (K := K) (a := c) (xs := ns.map V.int) (fun i σ' H' => ∃ (g m : Int) (x3 : Option V), σ' = [some (.ref a), some (.int g), some (.int m), x3] ∧ H' = H1 ∧ 0 ≤ g ∧ Builtin.Int.intBits g ≤ 1048576 + 206 * i ∧ i ≤ 63 ∧ 0 ≤ m ∧ m < 1999999871) ⟨_, _, _, rfl, rfl, by omega, by decide, by omega, by omega, by omega⟩ (fun i σ' H' _ hP => ?_) (fun i v σ' H' hi hP => ?_) (fun σ' H' hP => ?_)⟩
      · obtain ⟨_, _, _, _, rfl, _⟩ := hP
        exact SqL.of hc
      · obtain ⟨g, m, x3, rfl, rfl, g0, gb, i63, m0, m1⟩ := hP
        have il := (List.getElem?_eq_some_iff.mp hi).1
        rw [List.getElem?_map] at hi
        cases e : ns[i]? with
        | none =>
          rw [e] at hi
          cases hi
        | some z =>
          rw [e] at hi
          have ev : v = .int z := (Option.some.inj hi).symm
          subst ev
          have zb := hb z (List.mem_of_getElem? e)
          refine ⟨_, rfl, z, rfl, _, _, rfl, rfl, ⟨by decide, by decide, by decide⟩, _, _, rfl, rfl, _, rfl, ?_⟩
          refine ite2 (fun e1 => ?_) (fun e1 => ?_)
          · refine ⟨_, rfl, g, 205, rfl, rfl, ⟨by decide, by omega⟩, _, rfl, z, rfl, _, _, rfl, rfl, ?_⟩
            refine ⟨_, _, _, rfl, rfl, ?_, grow_bits gb zb, by omega, m0, m1⟩
            have : 0 ≤ g * 2 ^ 205 := Int.mul_nonneg g0 (by decide)
            split <;> omega
          · refine ⟨_, rfl, _, _, rfl, rfl, .inl ⟨by omega, by omega⟩, _, rfl, _, _, rfl, rfl, _, _, rfl, rfl, (by show (0 : Int) < _; decide), ?_⟩
            exact ⟨_, _, _, rfl, rfl, g0, by omega, by omega, Int.emod_nonneg _ (by decide), Int.emod_lt_of_pos _ (by decide)⟩
      · obtain ⟨g, m, x3, rfl, rfl, g0, gb, i63, m0, m1⟩ := hP
        exact ⟨_, _, _, rfl, S1, g0, m0, m1⟩
    · obtain ⟨g, m, x3, rfl, S1, g0, m0, m1⟩ := hM
      refine ⟨_, rfl, _, rfl, (by show 3 ≤ sizeLine; decide), fun d nd => ?_⟩
      exact q _ d (same_new S1 nd) (S1.free nd) ⟨g, m, 0, upd_same, g0, by omega, by omega, m0, m1⟩
end
abbrev s_law_draw : Stmt := topS 20
abbrev N_law_draw : List Str := ["deck", "most", "found", "turn", "one"]
theorem sc_law_draw : FnScope N_law_draw ["deck", "most"] (defScope s_law_draw) := ⟨rfl, rfl, rfl, by decide +kernel, rfl, by decide +kernel, by decide +kernel⟩
section
variable {P : Program} {w : World} {K : PySem.W.Frag} {mg : Str → Option Value} {base : Heap}
def spDraw : Sp := fun vs H Q _ => ∃ (d : Addr) (n : Nat) (many : Int), vs = [.ref d, .int many] ∧ SeedAt H d n ∧ n < 100000 ∧ 0 < many ∧ many < 2 ^ 60 ∧ ∀ (H' : Hp) (r : Int), 0 ≤ r → r < many → SmX d H H' → SeedAt H' d (n + 1) → Q (.int r) H'
theorem ok_draw {f : Addr} {fd : FuncData} (F : Fun K "_law_draw" "_law_draw" s_law_draw f fd) (T : TxtG mg) : FnOk P w K mg base CX0 1 f fd ["deck", "most"] spDraw := by
  refine F.ok sc_law_draw (fun vs H Q E h => ?_) (fun cdv A outer s H vs Q E hr h => ?_)
  · obtain ⟨d, n, many, rfl, _⟩ := h
    rfl
  · obtain ⟨d, n, many, rfl, ⟨a, m, k, h1, a0, k0, k1, m0, m1⟩, hn, hm0, hm1, q⟩ := h
    refine ⟨_, (pss_cons (ps_asg (pe_op op_add (pe_ix ix_list (pv 0) pe_int (fun _ _ => rfl)) pe_int) (pg_sub (pv 0) pe_int set_list))
      (pss_cut (ps_if (pt_cmpR op_gt (pe_ix ix_list (pv 0) pe_int (fun _ _ => rfl)) pe_int (nomark _))
        (pss_cons (ps_set (i := 2) sc_law_draw.nd rfl (.inl rfl) (pe_op op_mod (pe_ix ix_list (pv 0) pe_int (fun _ _ => rfl)) (pv 1)))
        (pss_cons (ps_asg (pe_op op_fdivW (pe_ix ix_list (pv 0) pe_int (fun _ _ => rfl)) (pv 1)) (pg_sub (pv 0) pe_int set_list))
        (pss_one (ps_ret (pv 2)))))
        pss_nil)
      (pss_cons (ps_set (i := 3) sc_law_draw.nd rfl (.inl rfl) (pe_ix ix_list (pv 0) pe_int (fun _ _ => rfl)))
      (pss_cons (ps_set (i := 4) sc_law_draw.nd rfl (.inl rfl) (pe_op op_mod (pe_op op_add (pe_op op_add (pe_ix ix_list (pv 0) pe_int (fun _ _ => rfl)) (pe_op op_mul (pe_op op_mul pe_int (pv 3)) (pv 3))) (pe_op op_mul pe_int (pv 3))) pe_int))
      (pss_cons (ps_set (i := 4) sc_law_draw.nd rfl (.inl rfl) (pe_op op_mod (pe_op op_mul (pv 4) (pv 4)) pe_int))
      (pss_one (ps_ret (pe_op op_mod (pe_op op_fdiv (pe_op op_mod (pe_op op_add (pe_op op_mul (pv 4) pe_int) (pe_op op_mul (pv 3) pe_int)) pe_int) pe_int) (pv 1))))))))), ?_⟩
    refine ⟨_, rfl, d, _, 2, _, rfl, rfl, SqL.of h1, rfl, k, 1, rfl, rfl, ?_⟩
    refine ⟨_, rfl, d, _, 2, 2, rfl, rfl, h1, rfl, ?_⟩
    have h2 : (upd H d (.lst [.int a, .int m, .int (k + 1)])) d = some (.lst [.int a, .int m, .int (k + 1)]) := upd_same
    have S1 : SmX d H (upd H d (.lst [.int a, .int m, .int (k + 1)])) := (SmX.refl H).mut
    refine ⟨fun σ' H' => σ' = [some (.ref d), some (.int many), none, none, none] ∧ SmX d H H' ∧ H' d = some (.lst [.int a, .int m, .int (k + 1)]), ?_, fun σ' H1 hM => ?_⟩
    · refine ⟨_, rfl, d, _, 0, _, rfl, rfl, SqL.of h2, rfl, _, _, rfl, rfl, _, rfl, ?_⟩
      refine ite2 (fun e => ?_) (fun e => ⟨rfl, S1, h2⟩)
      refine ⟨_, rfl, d, _, 0, _, rfl, rfl, SqL.of h2, rfl, _, rfl, _, _, rfl, rfl, hm0, ?_⟩
      refine ⟨_, rfl, d, _, 0, _, rfl, rfl, SqL.of h2, rfl, _, rfl, _, _, rfl, rfl, wide_div (b := 60) hm0 (by omega) (by decide) (by decide), ?_⟩
      refine ⟨_, rfl, d, _, 0, 0, rfl, rfl, h2, rfl, ?_⟩
      refine ⟨_, rfl, ?_⟩
      exact q _ _ (Int.emod_nonneg _ (by omega)) (Int.emod_lt_of_pos _ hm0) S1.mut ⟨a / many, m, k + 1, upd_same, Int.ediv_nonneg a0 (by omega), by omega, by omega, m0, m1⟩
    · obtain ⟨rfl, SM, h3⟩ := hM
      refine ⟨_, rfl, d, _, 2, _, rfl, rfl, SqL.of h3, rfl, ?_⟩
      refine ⟨_, rfl, d, _, 1, _, rfl, rfl, SqL.of h3, rfl, _, rfl, _, _, rfl, rfl, .inl ⟨by omega, by omega⟩, _, rfl, _, _, rfl, rfl, .inr ⟨by omega, by omega⟩, _, _, rfl, rfl, _, rfl, _, _, rfl, rfl, .inl ⟨by omega, by omega⟩, _, _, rfl, rfl, _, _, rfl, rfl, (by show (0 : Int) < _; decide), ?_⟩
      generalize hx : (m + 70003 * (k + 1) * (k + 1) + 5003 * (k + 1)) % 2147483543 = x
      have x0 : 0 ≤ x := hx ▸ Int.emod_nonneg _ (by decide)
      have x1 : x < 2147483543 := hx ▸ Int.emod_lt_of_pos _ (by decide)
      refine ⟨_, rfl, _, rfl, _, _, rfl, rfl, .inl ⟨by omega, by omega⟩, _, _, rfl, rfl, (by show (0 : Int) < _; decide), ?_⟩
      generalize hy : x * x % 2147483497 = y
      have y0 : 0 ≤ y := hy ▸ Int.emod_nonneg _ (by decide)
      have y1 : y < 2147483497 := hy ▸ Int.emod_lt_of_pos _ (by decide)
      refine ⟨_, rfl, _, _, rfl, rfl, .inl ⟨by omega, by omega⟩, _, rfl, _, _, rfl, rfl, .inl ⟨by omega, by omega⟩, _, _, rfl, rfl, _, _, rfl, rfl, (by show (0 : Int) < _; decide), ?_⟩
      refine ⟨_, _, rfl, rfl, ⟨by decide, by decide⟩, _, rfl, _, _, rfl, rfl, hm0, ?_⟩
      exact q _ _ (Int.emod_nonneg _ (by omega)) (Int.emod_lt_of_pos _ hm0) SM ⟨a, m, k + 1, h3, a0, by omega, by omega, m0, m1⟩
end
end Far

namespace Far
open PySem PySem.Spec PyProof.Rows L2
/-! ### t[::-1], t a text -/
def revS (z : Str) : Str := ⟨z.cps.toList.reverse.toArray⟩
def tRevS (te : TE) : TE := fun σ H Q => te σ H fun x H1 => ∃ z, x = .str z ∧ z.length ≤ sizeLine ∧ Q (.str (revS z)) H1
theorem fm_congrS {α β : Type} {f g : α → Option β} : ∀ {l : List α}, (∀ x ∈ l, f x = g x) → l.filterMap f = l.filterMap g
  | [], _ => rfl
  | x :: r, h => by
    rw [List.filterMap_cons, List.filterMap_cons, h x (List.mem_cons_self ..), fm_congrS fun y hy => h y (List.mem_cons_of_mem _ hy)]
theorem back_allS {α : Type} : ∀ (l : List α), (List.range l.length).filterMap (fun m => l[l.length - 1 - m]?) = l.reverse := by
  intro l
  have h := PySem.W.krv_range l.length
  have e : (List.range l.length).filterMap (fun m => l[l.length - 1 - m]?) = ((List.range l.length).map fun k => l.length - 1 - k).filterMap (fun j => l[j]?) := by
    rw [List.filterMap_map]
    rfl
  rw [e, h, List.filterMap_reverse]
  congr 1
  have := PySem.W.krv_all l.toArray
  simpa using this
theorem revS_pick (z : Str) : (⟨((Builtin.Str.strSliceIndices none none (-1) z.length).filterMap (z.cps[·]?)).toArray⟩ : Str) = revS z := by
  unfold revS
  rw [picked_rev, List.filterMap_map, ← back_allS z.cps.toList]
  congr 2
  show _ = (List.range z.cps.toList.length).filterMap _
  rw [Array.length_toList]
  refine fm_congrS fun m hm => ?_
  rw [Array.getElem?_toList]
  rfl
theorem pe_revS {X : Cx} {e : Expr} {te : TE} {k : Nat} {p1 p2 p3 pos : Pos} (he : PE X e te) : PE X (.Subscript e (.Slice none none (some (.UnaryOp .USub (.Constant (.int 1) k p1) p2)) p3) pos) (tRevS te) := by
  refine ⟨fun pins s σ H Q I h => ?_⟩
  refine Subscript_ (thn (he.run pins s σ H _ I h) fun v s1 ⟨x, H1, I1, r1, q1⟩ => ?_)
  obtain ⟨z, ex, hz, q⟩ := q1
  subst ex
  obtain ⟨t, rfl⟩ := r1
  have hst : PO X (some (.UnaryOp .USub (.Constant (.int 1) k p1) p2)) (tPart (tUn (rU fun i => .int (-i)) (tC (.int 1)))) := po_some (pe_un un_neg pe_int)
  refine wpAny_Slice (thn (po_none.run pins s1 σ H1 (fun o H2 => o = none ∧ H2 = H1) I1 ⟨rfl, rfl⟩) fun vl s2 ⟨l, H2, I2, pl, el, e2⟩ => ?_)
  subst el e2
  refine thn (po_none.run pins s2 σ H2 (fun o H3 => o = none ∧ H3 = H2) I2 ⟨rfl, rfl⟩) fun vu s3 ⟨u, H3, I3, pu, eu, e3⟩ => ?_
  subst eu e3
  refine thn (hst.run pins s3 σ H3 (fun o H4 => o = some (-1) ∧ H4 = H3) I3 ⟨1, rfl, -1, rfl, rfl, rfl⟩) fun vs s4 ⟨o, H4, I4, ps, eo, e4⟩ => ?_
  subst eo e4
  have I5 : Inv X pins σ H4 { s4 with heap := s4.heap.push { cls := .type "slice", data := .fields #[vl, vu, vs] } } := I4.kept (t' := s4.toks) fun b ob q => Heap.get?_push_of_some _ q
  obtain ⟨l, rfl, hl⟩ := IsPart.raw pl
  obtain ⟨u, rfl, hu⟩ := IsPart.raw pu
  obtain ⟨y, rfl, hy⟩ := IsPart.raw ps
  show wpAny (model X.prog X.w) X.A (subscriptTail e (.Slice none none (some (.UnaryOp .USub (.Constant (.int 1) k p1) p2)) p3) (.str z t) (.ref s4.heap.objs.size)) (EP X pins σ Q) X.xe _
  refine tail_any (ops := [.str z t, .ref s4.heap.objs.size]) (typeIs_str _ _ _) (F.slot_str_getitem.lookup) ?_ (by with_unfolding_all rfl)
  have hl' : l = none := by cases l with
    | none => rfl
    | some _ => cases hl
  have hu' : u = none := by cases u with
    | none => rfl
    | some _ => cases hu
  obtain ⟨⟨y1, y2⟩, rfl⟩ : ∃ p, y = some p := by cases y with
    | none => cases hy
    | some p => exact ⟨p, rfl⟩
  have hy' : y1 = -1 := by
    have := Option.some.inj hy
    first | exact this | exact this.symm
  subst hl' hu' hy'
  refine wpAny_getItem_str_slice (l := none) (u := none) (st := some (-1, y2)) ⟨_, Heap.get?_push_size _ rfl, rfl, rfl⟩ rfl ?_
  show Made.post (if ((-1 : Int) == 1 && (Builtin.Str.strSliceIndices none none (-1) z.length).length == z.length) = true then Made.val (.str z t)
    else Made.str ⟨((Builtin.Str.strSliceIndices none none (-1) z.length).filterMap (z.cps[·]?)).toArray⟩) (EP X pins σ Q) _
  rw [if_neg (by simp), revS_pick]
  refine ⟨?_, .str _, H4, I5.tok _, ⟨_, rfl⟩, q⟩
  show z.cps.toList.reverse.toArray.size ≤ sizeLine
  rw [List.size_toArray, List.length_reverse, Array.length_toList]
  exact hz
end Far

namespace Far
open PySem PySem.Spec PyProof.Rows L2
open C8 (pss_cut tCut)
open SX (S)
/-! ### lists without an item twice -/
theorem nodup_sub_len {α : Type} [DecidableEq α] : ∀ (l m : List α), l.Nodup → (∀ x ∈ l, x ∈ m) → l.length ≤ m.length
  | [], _, _, _ => Nat.zero_le _
  | a :: r, m, h, hs => by
    obtain ⟨h1, h2⟩ := List.nodup_cons.mp h
    have ha : a ∈ m := hs a (List.mem_cons.mpr (.inl rfl))
    have ih := nodup_sub_len r (m.erase a) h2 fun x hx => by
      have ne : x ≠ a := fun e => h1 (e ▸ hx)
      exact (List.mem_erase_of_ne ne).mpr (hs x (List.mem_cons.mpr (.inr hx)))
    have hl := List.length_erase_of_mem ha
    have hp : 0 < m.length := List.length_pos_of_mem ha
    rw [List.length_cons]
    omega
theorem nd_snoc' {α : Type} {l : List α} {x : α} (h : l.Nodup) (hx : x ∉ l) : (l ++ [x]).Nodup := by
  rw [List.nodup_append]
  exact ⟨h, by simp, fun a ha b hb e => hx (by rw [← List.mem_singleton.mp hb, ← e]; exact ha)⟩

/-! ### texts as data -/
theorem strOk_S {l : List Nat} (h : NameOk l) : PyData.strOk (S l) = true := by
  show (l.toArray.all (· < 0x110000)) = true
  rw [← Array.all_toList, List.all_eq_true]
  intro c hc
  have := h.2.2 c hc
  exact decide_eq_true (by omega)
theorem inV_strs (l : List Nat) (ls : List (List Nat)) : inV (.str (S l)) ((ls.map S).map V.str) = decide (l ∈ ls) := by
  induction ls with
  | nil => rfl
  | cons a r ih =>
    show (S a == S l || inV (.str (S l)) ((r.map S).map V.str)) = _
    rw [ih, SX.S_beq_eq]
    by_cases e : a = l
    · subst e
      simp
    · have : l ≠ a := fun z => e z.symm
      simp [e, this]
theorem flat_strs (ls : List (List Nat)) : ((ls.map S).map V.str).all flatV = true := by
  induction ls with
  | nil => rfl
  | cons a r ih => exact ih
theorem strs_at {ls : List (List Nat)} {v : V} (h : v ∈ (ls.map S).map V.str) : ∃ l ∈ ls, v = .str (S l) := by
  obtain ⟨z, hz, rfl⟩ := List.mem_map.mp h
  obtain ⟨l, hl, rfl⟩ := List.mem_map.mp hz
  exact ⟨l, hl, rfl⟩
theorem dp_strs (K : PySem.W.Frag) (H : Hp) : ∀ ls : List (List Nat), DpAll K H ((ls.map S).map V.str) (ls.map fun l => PyData.str (S l))
  | [] => .nil
  | l :: r => .cons (.str _) (dp_strs K H r)
theorem lay_strs : ∀ {ls : List (List Nat)}, (∀ l ∈ ls, NameOk l) → PyData.canLayAll0 (ls.map fun l => PyData.str (S l)) = true
  | [], _ => rfl
  | l :: r, h => by
    show (PyData.strOk (S l) && PyData.canLayAll0 (r.map fun l => PyData.str (S l))) = true
    rw [strOk_S (h l (List.mem_cons.mpr (.inl rfl))), lay_strs fun x hx => h x (List.mem_cons.mpr (.inr hx))]
    rfl
theorem dep_strs : ∀ ls : List (List Nat), PyData.depthAll (ls.map fun l => PyData.str (S l)) = 0
  | [] => rfl
  | l :: r => by
    show max 0 (PyData.depthAll (r.map fun l => PyData.str (S l))) = 0
    rw [dep_strs r]
    rfl
theorem shaped_strs {ls : List (List Nat)} (h : ∀ l ∈ ls, NameOk l) : SeqAt.shaped (.list (ls.map fun l => PyData.str (S l))) = true := by
  show (PyData.canLayAll0 (ls.map fun l => PyData.str (S l)) && decide (PyData.depthAll (ls.map fun l => PyData.str (S l)) + 1 ≤ 64)) = true
  rw [lay_strs h, dep_strs]
  rfl

/-! ### names made otherwise -/
abbrev abc : Str := "abcdefghijklmnopqrstuvwxyz"
theorem abc_at : ∀ k : _root_.Fin 26, atI abc.cps.toList ((k.val : Nat) : Int) = some (97 + k.val) := by decide +kernel
theorem abc_ok : ∀ c ∈ abc.cps.toList, 97 ≤ c ∧ c ≤ 122 := by decide +kernel
theorem abc_len : abc.cps.toList.length = 26 := by decide +kernel
def cand (j : Nat) : List Nat := [97 + j / 26] ++ [97 + j % 26]
theorem cand_inj {i j : Nat} (h : cand i = cand j) : i = j := by
  unfold cand at h
  simp at h
  omega
theorem cand_ok {j : Nat} (hj : j < 600) : NameOk (cand j) := by
  refine ⟨by simp [cand], by simp [cand], fun c hc => ?_⟩
  unfold cand at hc
  simp at hc
  omega
/-- of the names tried so far all but the last are found already -/
structure Tried (ls : List (List Nat)) (t : Nat) (l : List Nat) : Prop where
  ok : NameOk l
  last : t ≠ 0 → l = cand (t - 1)
  old : ∀ j, j + 1 < t → cand j ∈ ls
theorem Tried.lt {ls : List (List Nat)} {t : Nat} {l : List Nat} (h : Tried ls t l) (hl : l ∈ ls) : t ≤ ls.length := by
  have sub : ∀ x ∈ (List.range t).map cand, x ∈ ls := fun x hx => by
    obtain ⟨j, hj, rfl⟩ := List.mem_map.mp hx
    have hj := List.mem_range.mp hj
    by_cases e : j + 1 < t
    · exact h.old j e
    · have e2 : j = t - 1 := by omega
      rw [e2, ← h.last (by omega)]
      exact hl
  have nd : ((List.range t).map cand).Nodup := by
    rw [List.Nodup, List.pairwise_map]
    exact (List.nodup_range (n := t)).imp fun ne e => ne (cand_inj e)
  have := nodup_sub_len _ ls nd sub
  rw [List.length_map, List.length_range] at this
  exact this
theorem Tried.next {ls : List (List Nat)} {t : Nat} {l : List Nat} (h : Tried ls t l) (hl : l ∈ ls) (h30 : ls.length < 100) : Tried ls (t + 1) (cand t) := by
  have hlt := h.lt hl
  refine ⟨cand_ok (by omega), fun _ => rfl, fun j hj => ?_⟩
  by_cases e : j + 1 < t
  · exact h.old j e
  · have e2 : j = t - 1 := by omega
    rw [e2, ← h.last (by omega)]
    exact hl
theorem revS_S (l : List Nat) : revS (S l) = S l.reverse := by
  show (⟨(l.toArray.toList.reverse).toArray⟩ : Str) = _
  rw [List.toList_toArray]
def NamesAt (H : Hp) (p : Addr) (ls : List (List Nat)) : Prop := H p = some (.lst ((ls.map S).map V.str))
end Far

namespace Far
open PySem PySem.Spec PyProof.Rows L2
/-! ### xs[::e], xs a list, e tells 1 or -1 -/
def tStepL (K : PySem.W.Frag) (te ts : TE) : TE := fun σ H Q => te σ H fun x H1 => tPart ts σ H1 fun o H2 => ∃ a xs i, x = .ref a ∧ o = some i ∧ (i = 1 ∨ i = -1) ∧ SqL K H2 a xs ∧ ∀ p, H2 p = none → Q (.ref p) (upd H2 p (.lst (if i = 1 then xs else xs.reverse)))
theorem range_some {α : Type} : ∀ (l : List α), (List.range l.length).filterMap (fun m => l[m]?) = l
  | [] => rfl
  | a :: r => by
    rw [List.length_cons, List.range_succ_eq_map, List.filterMap_cons]
    show a :: ((List.range r.length).map Nat.succ).filterMap _ = _
    rw [List.filterMap_map]
    congr 1
    exact range_some r
theorem pick_one (items : Array Value) : slicePick items none none (some 1) = items := by
  have h := slicePick_cut items.toList none none
  have e : slicePick items none none (some 1) = slicePick items none none none := by rfl
  rw [e]
  rw [Array.toArray_toList] at h
  rw [h]
  have e1 : HT.sIx items.toList.length items.toList.length none = items.toList.length := rfl
  have e2 : HT.sIx items.toList.length 0 none = 0 := rfl
  rw [e1, e2, List.drop_zero, Nat.sub_zero, List.take_length, Array.toArray_toList]
theorem pe_stepL {X : Cx} {e st : Expr} {te ts : TE} {p3 pos : Pos} (he : PE X e te) (hs : PE X st ts) : PE X (.Subscript e (.Slice none none (some st) p3) pos) (tStepL X.K te ts) := by
  refine ⟨fun pins s σ H Q I h => ?_⟩
  refine Subscript_ (thn (he.run pins s σ H _ I h) fun v s1 ⟨x, H1, I1, r1, q1⟩ => ?_)
  have hst : PO X (some st) (tPart ts) := po_some hs
  refine wpAny_Slice (thn (po_none.run pins s1 σ H1 (fun o H2 => o = none ∧ H2 = H1) I1 ⟨rfl, rfl⟩) fun vl s2 ⟨l, H2, I2, pl, el, e2⟩ => ?_)
  subst el e2
  refine thn (po_none.run pins s2 σ H2 (fun o H3 => o = none ∧ H3 = H2) I2 ⟨rfl, rfl⟩) fun vu s3 ⟨u, H3, I3, pu, eu, e3⟩ => ?_
  subst eu e3
  refine thn (hst.run pins s3 σ H3 _ I3 q1) fun vs s4 ⟨o, H4, I4, ps, q2⟩ => ?_
  obtain ⟨a, xs, i, ex, eo, hi, hx, q⟩ := q2
  subst ex eo
  cases r1
  have I5 : Inv X pins σ H4 { s4 with heap := s4.heap.push { cls := .type "slice", data := .fields #[vl, vu, vs] } } := I4.kept (t' := s4.toks) fun b ob q => Heap.get?_push_of_some _ q
  obtain ⟨its, r, ht, hz⟩ := I5.list hx
  have hlen := r.length
  show wpAny (model X.prog X.w) X.A (subscriptTail e (.Slice none none (some st) p3) (.ref a) (.ref s4.heap.objs.size)) (EP X pins σ Q) X.xe { s4 with heap := s4.heap.push { cls := .type "slice", data := .fields #[vl, vu, vs] } }
  refine tail_any (ops := [.ref a, .ref s4.heap.objs.size]) ht.isList.typeIs (PySem.slot_list_getitem.lookup) ?_ (by with_unfolding_all rfl)
  refine wpAny_getItem_list_slice ht.isList (Heap.IsSliceOf.new _ vl vu vs) pl pu ps (by rcases hi with z | z <;> rw [z] <;> decide) ?_ (by rw [List.size_toArray]; omega)
  have q := q _ (I5.hok.fresh (Nat.le_refl _))
  rcases hi with z | z
  · subst z
    rw [if_pos rfl] at q
    rw [pick_one]
    refine ⟨.ref _, _, I5.laid (t' := s4.toks) (o := .lst xs) (fun b ob q => Heap.get?_push_of_some _ q) (Nat.le_refl _) ?_, rfl, q⟩
    exact ⟨hz, _, 0, r, Heap.get?_push_size _ rfl⟩
  · subst z
    rw [if_neg (by decide)] at q
    rw [PySem.W.krv_pick]
    refine ⟨.ref _, _, I5.laid (t' := s4.toks) (o := .lst xs.reverse) (fun b ob q => Heap.get?_push_of_some _ q) (Nat.le_refl _) ?_, rfl, q⟩
    exact ⟨by rw [List.length_reverse]; exact hz, _, 0, r.reverse, Heap.get?_push_size _ rfl⟩
end Far

namespace Far
open PySem PySem.Spec PyProof.Rows L2
open SX (S)
abbrev Nm := List Nat
abbrev Tie := Nm × Nm × Int
/-- places in an order in which each has one tie to those ahead; the ties in that order -/
inductive Grown : List Nm → List Tie → Prop
  | one (a : Nm) : Grown [a] []
  | leaf {os : List Nm} {es : List Tie} {a b : Nm} {k : Int} {e : Tie} : Grown os es → a ∈ os → b ∉ os → e = (a, b, k) ∨ e = (b, a, k) → 1 ≤ k → k ≤ 1000000 → Grown (os ++ [b]) (es ++ [e])
def IsTree (pl : List Nm) (ts : List Tie) : Prop := ∃ os es, Grown os es ∧ pl.Perm os ∧ ts.Perm es
theorem Grown.nodup {os : List Nm} {es : List Tie} (h : Grown os es) : os.Nodup := by
  induction h with
  | one a => simp
  | leaf _ _ hb _ _ _ ih => exact nd_snoc' ih hb
theorem Grown.len {os : List Nm} {es : List Tie} (h : Grown os es) : os.length = es.length + 1 := by
  induction h with
  | one a => rfl
  | leaf _ _ _ _ _ _ ih => rw [List.length_append, List.length_append, ih]; rfl
theorem Grown.ties {os : List Nm} {es : List Tie} (h : Grown os es) : ∀ e ∈ es, e.1 ∈ os ∧ e.2.1 ∈ os ∧ 1 ≤ e.2.2 ∧ e.2.2 ≤ 1000000 := by
  induction h with
  | one a => simp
  | leaf h1 ha hb he k1 k2 ih =>
    intro e hm
    rcases List.mem_append.mp hm with z | z
    · obtain ⟨a1, a2, a3⟩ := ih e z
      exact ⟨List.mem_append_left _ a1, List.mem_append_left _ a2, a3⟩
    · rw [List.mem_singleton.mp z]
      rcases he with e | e <;> rw [e] <;> simp [ha, k1, k2]
theorem IsTree.nodup {pl : List Nm} {ts : List Tie} (h : IsTree pl ts) : pl.Nodup := by
  obtain ⟨os, es, g, p, _⟩ := h
  exact p.nodup_iff.mpr g.nodup
theorem IsTree.len {pl : List Nm} {ts : List Tie} (h : IsTree pl ts) : pl.length = ts.length + 1 := by
  obtain ⟨os, es, g, p, q⟩ := h
  rw [p.length_eq, q.length_eq]
  exact g.len
theorem IsTree.ties {pl : List Nm} {ts : List Tie} (h : IsTree pl ts) : ∀ e ∈ ts, e.1 ∈ pl ∧ e.2.1 ∈ pl ∧ 1 ≤ e.2.2 ∧ e.2.2 ≤ 1000000 := by
  obtain ⟨os, es, g, p, q⟩ := h
  intro e he
  obtain ⟨a, b, c⟩ := g.ties e (q.mem_iff.mp he)
  exact ⟨p.mem_iff.mpr a, p.mem_iff.mpr b, c⟩

/-! ### as data -/
def tieD (t : Tie) : PyData := .tuple [.str (S t.1), .str (S t.2.1), .int t.2.2]
def strD (l : Nm) : PyData := .str (S l)
def treeD (pl : List Nm) (ts : List Tie) : PyData := .tuple [.tuple (pl.map strD), .tuple (ts.map tieD)]
/-- tuples stand as they stood -/
structure TK (H H' : Hp) : Prop where
  tup : ∀ b xs, H b = some (.tup xs) → H' b = some (.tup xs)
  frz : ∀ b o xs, H b = some (.frz o (.tup xs)) → H' b = some (.frz o (.tup xs))
theorem TK.refl (H : Hp) : TK H H := ⟨fun _ _ h => h, fun _ _ _ h => h⟩
theorem TK.trans {H H1 H2 : Hp} (a : TK H H1) (b : TK H1 H2) : TK H H2 := ⟨fun x o h => b.tup x o (a.tup x o h), fun x o u h => b.frz x o u (a.frz x o u h)⟩
theorem TK.of {H H' : Hp} (a : Same H H') : TK H H' := ⟨fun x _ h => a x _ h, fun x _ _ h => a x _ h⟩
theorem TK.new {H : Hp} {p : Addr} {o : HO} (n : H p = none) : TK H (upd H p o) :=
  ⟨fun b xs h => by rw [upd_ne (ne_of_none h n)]; exact h, fun b u xs h => by rw [upd_ne (ne_of_none h n)]; exact h⟩
theorem TK.mut {H : Hp} {p : Addr} {o : HO} {xs : List V} (n : H p = some (.lst xs)) : TK H (upd H p o) :=
  ⟨fun b ys h => by rw [upd_ne (ne_of h n (by intro z; cases z))]; exact h, fun b u ys h => by rw [upd_ne (ne_of h n (by intro z; cases z))]; exact h⟩
theorem SmX.tk {d : Addr} {H H' : Hp} {xs : List V} (s : SmX d H H') (n : H d = some (.lst xs)) : TK H H' :=
  ⟨fun b ys h => s b _ (ne_of h n (by intro z; cases z)) h, fun b u ys h => s b _ (ne_of h n (by intro z; cases z)) h⟩
theorem DeckAt.lst {H : Hp} {d c : Addr} {n : Nat} (h : DeckAt H d c n) : ∃ xs, H d = some (.lst xs) := by
  obtain ⟨_, _, _, _, _, h1, _⟩ := h
  exact ⟨_, h1⟩
theorem DeckAt.tk {H H' : Hp} {d c : Addr} {n : Nat} (h : DeckAt H d c n) (s : SmX d H H') : TK H H' := by
  obtain ⟨xs, e⟩ := h.lst
  exact s.tk e
mutual
/-- a value that never changes: none, truths, numbers, texts, tuples of such -/
inductive Dt (H : Hp) : V → PyData → Prop
  | non : Dt H .non .none
  | bl (b : Bool) : Dt H (.bl b) (.bool b)
  | int (i : Int) : Dt H (.int i) (.int i)
  | str (x : Str) : Dt H (.str x) (.str x)
  | tup {a : Addr} {xs : List V} {ds : List PyData} : H a = some (.tup xs) → DtAll H xs ds → Dt H (.ref a) (.tuple ds)
  /-- a tuple of texts that is known to have no dict of its own -/
  | tupZ {a : Addr} {pl : List Nm} {ds : List PyData} {o : Obj} : ds = pl.map strD → pl ≠ [] → o.dict = none → H a = some (.frz o (.tup ((pl.map S).map V.str))) → Dt H (.ref a) (.tuple ds)
inductive DtAll (H : Hp) : List V → List PyData → Prop
  | nil : DtAll H [] []
  | cons {v : V} {vs : List V} {d : PyData} {ds : List PyData} : Dt H v d → DtAll H vs ds → DtAll H (v :: vs) (d :: ds)
end
mutual
theorem Dt.keep {H H' : Hp} (t : TK H H') : ∀ {v : V} {d : PyData}, Dt H v d → Dt H' v d
  | _, _, .non => .non
  | _, _, .bl b => .bl b
  | _, _, .int i => .int i
  | _, _, .str x => .str x
  | _, _, .tup a b => .tup (t.tup _ _ a) (DtAll.keep t b)
  | _, _, .tupZ e n d a => .tupZ e n d (t.frz _ _ _ a)
theorem DtAll.keep {H H' : Hp} (t : TK H H') : ∀ {vs : List V} {ds : List PyData}, DtAll H vs ds → DtAll H' vs ds
  | _, _, .nil => .nil
  | _, _, .cons a b => .cons (Dt.keep t a) (DtAll.keep t b)
end
theorem dpa_strs {K : PySem.W.Frag} (H : Hp) : ∀ ls : List Nm, DpAll K H ((ls.map S).map V.str) (ls.map strD)
  | [] => .nil
  | _ :: r => .cons (.str _) (dpa_strs H r)
mutual
theorem Dt.dp {K : PySem.W.Frag} {H : Hp} : ∀ {v : V} {d : PyData}, Dt H v d → Dp K H v d
  | _, _, .non => .non
  | _, _, .bl b => .bl b
  | _, _, .int i => .int i
  | _, _, .str x => .str x
  | _, _, .tup a b => .tup (.inl (.inl a)) (DtAll.dp b)
  | _, _, .tupZ (pl := pl) (o := o) e _ _ a => e ▸ .tup (.inl (.inr ⟨o, a⟩)) (dpa_strs H pl)
theorem DtAll.dp {K : PySem.W.Frag} {H : Hp} : ∀ {vs : List V} {ds : List PyData}, DtAll H vs ds → DpAll K H vs ds
  | _, _, .nil => .nil
  | _, _, .cons a b => .cons (Dt.dp a) (DtAll.dp b)
end
theorem DtAll.len {H : Hp} : ∀ {vs : List V} {ds : List PyData}, DtAll H vs ds → vs.length = ds.length
  | _, _, .nil => rfl
  | _, _, .cons _ t => congrArg (· + 1) (DtAll.len t)
theorem DtAll.app {H : Hp} : ∀ {vs ws : List V} {ds es : List PyData}, DtAll H vs ds → DtAll H ws es → DtAll H (vs ++ ws) (ds ++ es)
  | _, _, _, _, .nil, h => h
  | _, _, _, _, .cons a t, h => .cons a (DtAll.app t h)
theorem DtAll.get {H : Hp} : ∀ {vs : List V} {ds : List PyData} {i : Nat} {v : V}, DtAll H vs ds → vs[i]? = some v → ∃ d, ds[i]? = some d ∧ Dt H v d
  | _, _, _, _, .nil, e => by simp at e
  | _, _, 0, _, .cons a _, e => by
    simp at e
    subst e
    exact ⟨_, rfl, a⟩
  | _, _, i + 1, _, .cons _ t, e => by
    obtain ⟨d, h1, h2⟩ := DtAll.get (i := i) t (by simpa using e)
    exact ⟨d, by simpa using h1, h2⟩
theorem DtAll.del {H : Hp} : ∀ {vs : List V} {ds : List PyData} (i : Nat), DtAll H vs ds → DtAll H (vs.eraseIdx i) (ds.eraseIdx i)
  | _, _, _, .nil => .nil
  | _, _, 0, .cons _ t => t
  | _, _, i + 1, .cons a t => .cons a (DtAll.del i t)
theorem DtAll.strs {H : Hp} : ∀ {ls : List Nm} {vs : List V}, DtAll H vs (ls.map strD) → vs = (ls.map S).map V.str
  | [], _, .nil => rfl
  | l :: r, _, .cons (.str _) t => by
    rw [DtAll.strs (ls := r) t]
    rfl
theorem dt_strs (H : Hp) : ∀ ls : List Nm, DtAll H ((ls.map S).map V.str) (ls.map strD)
  | [] => .nil
  | _ :: r => .cons (.str _) (dt_strs H r)
theorem perm_erase {α : Type} : ∀ {l : List α} {k : Nat} {x : α}, l[k]? = some x → (x :: l.eraseIdx k).Perm l
  | [], _, _, e => by simp at e
  | a :: r, 0, x, e => by
    simp at e
    subst e
    exact .refl _
  | a :: r, k + 1, x, e => by
    have ih := perm_erase (l := r) (k := k) (x := x) (by simpa using e)
    show (x :: a :: r.eraseIdx k).Perm (a :: r)
    exact (List.Perm.swap a x _).trans (ih.cons a)
theorem perm_pick {α : Type} {l1 l2 m : List α} {x : α} {k : Nat} (h : (l1 ++ l2).Perm m) (e : l2[k]? = some x) : ((l1 ++ [x]) ++ l2.eraseIdx k).Perm m := by
  rw [List.append_assoc]
  exact ((List.Perm.refl l1).append (perm_erase e)).trans h
theorem map_erase {α β : Type} (f : α → β) : ∀ (l : List α) (k : Nat), (l.map f).eraseIdx k = (l.eraseIdx k).map f
  | [], _ => rfl
  | _ :: _, 0 => rfl
  | a :: r, k + 1 => congrArg (f a :: ·) (map_erase f r k)
/-- a tuple of texts: of this heap, or one known through and through -/
def TupAt (H : Hp) (a : Addr) (xs : List V) : Prop := H a = some (.tup xs) ∨ ∃ o : Obj, o.dict = none ∧ H a = some (.frz o (.tup xs))
theorem TupAt.sq {K : PySem.W.Frag} {H : Hp} {a : Addr} {xs : List V} (h : TupAt H a xs) : SqT K H a xs := h.elim (fun h => .inl (.inl h)) fun ⟨o, _, h⟩ => .inl (.inr ⟨o, h⟩)
theorem TupAt.ne {H : Hp} {a p : Addr} {xs : List V} (h : TupAt H a xs) (n : H p = none) : a ≠ p := h.elim (fun h => ne_of_none h n) fun ⟨_, _, h⟩ => ne_of_none h n
theorem TupAt.same {H H' : Hp} {a : Addr} {xs : List V} (h : TupAt H a xs) (s : Same H H') : TupAt H' a xs := h.elim (fun h => .inl (s _ _ h)) fun ⟨o, d, h⟩ => .inr ⟨o, d, s _ _ h⟩
theorem TupAt.upd {H : Hp} {a p : Addr} {xs : List V} {o : HO} (h : TupAt H a xs) (n : H p = none) : TupAt (L2.upd H p o) a xs := h.elim (fun q => .inl (by rw [upd_ne (ne_of_none q n)]; exact q)) fun ⟨u, d, q⟩ => .inr ⟨u, d, by rw [upd_ne (ne_of_none q n)]; exact q⟩
theorem TupAt.updN {H : Hp} {a p : Addr} {xs : List V} {o : HO} (h : TupAt H a xs) (n : a ≠ p) : TupAt (L2.upd H p o) a xs := h.elim (fun q => .inl (by rw [upd_ne n]; exact q)) fun ⟨u, d, q⟩ => .inr ⟨u, d, by rw [upd_ne n]; exact q⟩
end Far

namespace Far
open PySem
open SX (S)
/-! ### ways in a tree -/
def Adj (ts : List Tie) (u v : Nm) (k : Int) : Prop := (u, v, k) ∈ ts ∨ (v, u, k) ∈ ts
theorem Adj.symm {ts : List Tie} {u v : Nm} {k : Int} (h : Adj ts u v k) : Adj ts v u k := h.elim .inr .inl
theorem Adj.perm {ts ts' : List Tie} {u v : Nm} {k : Int} (p : ts.Perm ts') (h : Adj ts u v k) : Adj ts' u v k := h.elim (fun h => .inl (p.mem_iff.mp h)) fun h => .inr (p.mem_iff.mp h)
/-- from u to v, no place twice: the places, the length -/
inductive Way (ts : List Tie) (u : Nm) : Nm → List Nm → Int → Prop
  | nil : Way ts u u [u] 0
  | snoc {v w : Nm} {p : List Nm} {L k : Int} : Way ts u v p L → Adj ts v w k → w ∉ p → Way ts u w (p ++ [w]) (L + k)
theorem Way.perm {ts ts' : List Tie} (q : ts.Perm ts') {u v : Nm} {p : List Nm} {L : Int} (h : Way ts u v p L) : Way ts' u v p L := by
  induction h with
  | nil => exact .nil
  | snoc _ ha hn ih => exact .snoc ih (ha.perm q) hn
theorem Way.last {ts : List Tie} {u v : Nm} {p : List Nm} {L : Int} (h : Way ts u v p L) : ∃ q, p = q ++ [v] := by
  cases h with
  | nil => exact ⟨[], rfl⟩
  | snoc _ _ _ => exact ⟨_, rfl⟩
theorem Way.mem {ts : List Tie} {u v : Nm} {p : List Nm} {L : Int} (h : Way ts u v p L) : v ∈ p := by
  obtain ⟨q, rfl⟩ := h.last
  simp
theorem Way.first {ts : List Tie} {u v : Nm} {p : List Nm} {L : Int} (h : Way ts u v p L) : ∃ q, p = u :: q := by
  induction h with
  | nil => exact ⟨[], rfl⟩
  | snoc _ _ _ ih =>
    obtain ⟨q, rfl⟩ := ih
    exact ⟨q ++ [_], rfl⟩
theorem Way.nodup {ts : List Tie} {u v : Nm} {p : List Nm} {L : Int} (h : Way ts u v p L) : p.Nodup := by
  induction h with
  | nil => simp
  | snoc _ _ hn ih => exact nd_snoc' ih hn
theorem Way.inside {ts : List Tie} {pl : List Nm} (ht : ∀ e ∈ ts, e.1 ∈ pl ∧ e.2.1 ∈ pl) {u v : Nm} {p : List Nm} {L : Int} (h : Way ts u v p L) (hu : u ∈ pl) : ∀ x ∈ p, x ∈ pl := by
  induction h with
  | nil =>
    intro x hx
    rw [List.mem_singleton.mp hx]
    exact hu
  | snoc _ ha _ ih =>
    intro x hx
    rcases List.mem_append.mp hx with z | z
    · exact ih x z
    · rw [List.mem_singleton.mp z]
      rcases ha with h | h
      · exact (ht _ h).2
      · exact (ht _ h).1
/-- a place on the way is come to by a way of its own -/
theorem Way.upto {ts : List Tie} {u v x : Nm} {p : List Nm} {L : Int} (h : Way ts u v p L) (hx : x ∈ p) : ∃ q M, Way ts u x q M ∧ ∀ y ∈ q, y ∈ p := by
  induction h with
  | nil =>
    rw [List.mem_singleton.mp hx]
    exact ⟨_, _, .nil, fun _ h => h⟩
  | snoc h1 ha hn ih =>
    rcases List.mem_append.mp hx with z | z
    · obtain ⟨q, M, hq, hs⟩ := ih z
      exact ⟨q, M, hq, fun y hy => List.mem_append_left _ (hs y hy)⟩
    · rw [List.mem_singleton.mp z]
      exact ⟨_, _, .snoc h1 ha hn, fun _ h => h⟩
section leaf
variable {os : List Nm} {es : List Tie} {a b : Nm} {k : Int} {e0 : Tie}
theorem adj_new (hb : ∀ e ∈ es, e.1 ≠ b ∧ e.2.1 ≠ b) (ab : a ≠ b) (he : e0 = (a, b, k) ∨ e0 = (b, a, k)) {x y : Nm} {m : Int} (h : Adj (es ++ [e0]) x y m) :
    (Adj es x y m ∧ x ≠ b ∧ y ≠ b) ∨ (x = a ∧ y = b ∧ m = k) ∨ (x = b ∧ y = a ∧ m = k) := by
  rcases h with h | h <;> rcases List.mem_append.mp h with z | z
  · exact .inl ⟨.inl z, hb _ z⟩
  · have z := List.mem_singleton.mp z
    rcases he with e | e <;> rw [e] at z <;> cases z
    · exact .inr (.inl ⟨rfl, rfl, rfl⟩)
    · exact .inr (.inr ⟨rfl, rfl, rfl⟩)
  · exact .inl ⟨.inr z, (hb _ z).2, (hb _ z).1⟩
  · have z := List.mem_singleton.mp z
    rcases he with e | e <;> rw [e] at z <;> cases z
    · exact .inr (.inr ⟨rfl, rfl, rfl⟩)
    · exact .inr (.inl ⟨rfl, rfl, rfl⟩)
theorem way_old (hb : ∀ e ∈ es, e.1 ≠ b ∧ e.2.1 ≠ b) (ab : a ≠ b) (he : e0 = (a, b, k) ∨ e0 = (b, a, k)) {u v : Nm} {p : List Nm} {L : Int} (h : Way (es ++ [e0]) u v p L) (hu : u ≠ b) :
    (v ≠ b ∧ b ∉ p ∧ Way es u v p L) ∨ (v = b ∧ ∃ q M, p = q ++ [b] ∧ L = M + k ∧ Way es u a q M) := by
  induction h with
  | nil => exact .inl ⟨hu, fun z => hu (List.mem_singleton.mp z).symm, .nil⟩
  | @snoc v w p L m h1 ha hn ih =>
    rcases ih with ⟨hv, hbp, hw⟩ | ⟨hv, q, M, hp, _, hq⟩
    · rcases adj_new hb ab he ha with ⟨ha, _, wb⟩ | ⟨e1, e2, e3⟩ | ⟨e1, _, _⟩
      · refine .inl ⟨wb, fun z => ?_, .snoc hw ha hn⟩
        rcases List.mem_append.mp z with z | z
        · exact hbp z
        · exact wb (List.mem_singleton.mp z).symm
      · subst e1 e2 e3
        exact .inr ⟨rfl, p, L, rfl, rfl, hw⟩
      · exact absurd e1 hv
    · rcases adj_new hb ab he ha with ⟨_, vb, _⟩ | ⟨e1, _, _⟩ | ⟨_, e2, _⟩
      · exact absurd hv vb
      · exact absurd (e1.symm.trans hv) ab
      · refine absurd ?_ hn
        rw [e2, hp]
        exact List.mem_append_left _ hq.mem
theorem way_from (hb : ∀ e ∈ es, e.1 ≠ b ∧ e.2.1 ≠ b) (ab : a ≠ b) (he : e0 = (a, b, k) ∨ e0 = (b, a, k)) {v : Nm} {p : List Nm} {L : Int} (h : Way (es ++ [e0]) b v p L) :
    (v = b ∧ p = [b] ∧ L = 0) ∨ (v ≠ b ∧ ∃ q M, p = b :: q ∧ L = k + M ∧ Way es a v q M) := by
  induction h with
  | nil => exact .inl ⟨rfl, rfl, rfl⟩
  | @snoc v w p L m h1 ha hn ih =>
    rcases ih with ⟨hv, hp, hL⟩ | ⟨hv, q, M, hp, hL, hq⟩
    · rcases adj_new hb ab he ha with ⟨_, vb, _⟩ | ⟨e1, _, _⟩ | ⟨_, e2, e3⟩
      · exact absurd hv vb
      · exact absurd (e1.symm.trans hv) ab
      · subst e2 e3 hp hL
        exact .inr ⟨ab, [w], 0, rfl, by omega, .nil⟩
    · have wb : w ≠ b := fun z => hn (by rw [z, hp]; simp)
      rcases adj_new hb ab he ha with ⟨ha, _, _⟩ | ⟨_, e2, _⟩ | ⟨e1, _, _⟩
      · subst hp hL
        exact .inr ⟨wb, q ++ [w], M + m, rfl, by omega, .snoc hq ha fun z => hn (List.mem_cons.mpr (.inr z))⟩
      · exact absurd e2 wb
      · exact absurd e1 hv
end leaf
theorem Grown.one_way {os : List Nm} {es : List Tie} (g : Grown os es) : ∀ {u v : Nm} {p q : List Nm} {L M : Int}, Way es u v p L → Way es u v q M → p = q ∧ L = M := by
  induction g with
  | one a =>
    intro u v p q L M h1 h2
    cases h1 with
    | nil =>
      cases h2 with
      | nil => exact ⟨rfl, rfl⟩
      | snoc _ ha _ => rcases ha with h | h <;> cases h
    | snoc _ ha _ => rcases ha with h | h <;> cases h
  | @leaf os es a b k e0 g ha hbn he k1 k2 ih =>
    intro u v p q L M h1 h2
    have hb : ∀ e ∈ es, e.1 ≠ b ∧ e.2.1 ≠ b := fun e hm => by
      obtain ⟨i1, i2, _⟩ := g.ties e hm
      exact ⟨fun z => hbn (z ▸ i1), fun z => hbn (z ▸ i2)⟩
    have ab : a ≠ b := fun z => hbn (z ▸ ha)
    by_cases hu : u = b
    · subst hu
      rcases way_from hb ab he h1 with ⟨v1, p1, l1⟩ | ⟨v1, p1, l1, e1, e2, w1⟩ <;> rcases way_from hb ab he h2 with ⟨v2, p2, l2⟩ | ⟨v2, p2, l2, e3, e4, w2⟩
      · exact ⟨p1.trans p2.symm, l1.trans l2.symm⟩
      · exact absurd v1 v2
      · exact absurd v2 v1
      · obtain ⟨z1, z2⟩ := ih w1 w2
        rw [e1, e2, e3, e4, z1, z2]
        exact ⟨rfl, rfl⟩
    · rcases way_old hb ab he h1 hu with ⟨v1, _, w1⟩ | ⟨v1, p1, l1, e1, e2, w1⟩ <;> rcases way_old hb ab he h2 hu with ⟨v2, _, w2⟩ | ⟨v2, p2, l2, e3, e4, w2⟩
      · exact ih w1 w2
      · exact absurd v2 v1
      · exact absurd v1 v2
      · obtain ⟨z1, z2⟩ := ih w1 w2
        rw [e1, e2, e3, e4, z1, z2]
        exact ⟨rfl, rfl⟩
theorem IsTree.one_way {pl : List Nm} {ts : List Tie} (h : IsTree pl ts) {u v : Nm} {p q : List Nm} {L M : Int} (h1 : Way ts u v p L) (h2 : Way ts u v q M) : p = q ∧ L = M := by
  obtain ⟨os, es, g, _, p2⟩ := h
  exact g.one_way (h1.perm p2) (h2.perm p2)
/-- what is closed by ties and holds one place holds all -/
theorem Grown.all_of {os : List Nm} {es : List Tie} (g : Grown os es) : ∀ {F : Nm → Prop}, (∃ u ∈ os, F u) → (∀ x y k, F x → Adj es x y k → F y) → ∀ v ∈ os, F v := by
  induction g with
  | one a =>
    intro F ⟨u, hu, hF⟩ _ v hv
    rw [List.mem_singleton.mp hv, ← List.mem_singleton.mp hu]
    exact hF
  | @leaf os es a b k e0 g ha hbn he k1 k2 ih =>
    intro F ⟨u, hu, hF⟩ cl v hv
    have cab : Adj (es ++ [e0]) a b k := by
      rcases he with e | e
      · exact .inl (by rw [e]; simp)
      · exact .inr (by rw [e]; simp)
    have cl' : ∀ x y m, F x → Adj es x y m → F y := fun x y m hx h => cl x y m hx (h.elim (fun z => .inl (List.mem_append_left _ z)) fun z => .inr (List.mem_append_left _ z))
    have start : ∃ w ∈ os, F w := by
      rcases List.mem_append.mp hu with z | z
      · exact ⟨u, z, hF⟩
      · rw [List.mem_singleton.mp z] at hF
        exact ⟨a, ha, cl b a k hF cab.symm⟩
    have old := ih start cl'
    rcases List.mem_append.mp hv with z | z
    · exact old v z
    · rw [List.mem_singleton.mp z]
      exact cl a b k (old a ha) cab
theorem IsTree.all_of {pl : List Nm} {ts : List Tie} (h : IsTree pl ts) {F : Nm → Prop} {u : Nm} (hu : u ∈ pl) (hF : F u) (cl : ∀ x y k, F x → Adj ts x y k → F y) : ∀ v ∈ pl, F v := by
  obtain ⟨os, es, g, p1, p2⟩ := h
  intro v hv
  exact g.all_of ⟨u, p1.mem_iff.mp hu, hF⟩ (fun x y k hx ha => cl x y k hx (ha.perm p2.symm)) v (p1.mem_iff.mp hv)
theorem IsTree.way {pl : List Nm} {ts : List Tie} (h : IsTree pl ts) {u v : Nm} (hu : u ∈ pl) (hv : v ∈ pl) : ∃ p L, Way ts u v p L := by
  refine h.all_of (F := fun v => ∃ p L, Way ts u v p L) hu ⟨_, _, .nil⟩ (fun x y k ⟨p, L, hw⟩ ha => ?_) v hv
  by_cases hy : y ∈ p
  · obtain ⟨q, M, hq, _⟩ := hw.upto hy
    exact ⟨q, M, hq⟩
  · exact ⟨_, _, .snoc hw ha hy⟩
open Classical in
/-- the way and its length -/
noncomputable def wayOf (ts : List Tie) (u v : Nm) : List Nm × Int := if h : ∃ x : List Nm × Int, Way ts u v x.1 x.2 then h.choose else ([], 0)
noncomputable def path (ts : List Tie) (u v : Nm) : List Nm := (wayOf ts u v).1
noncomputable def dist (ts : List Tie) (u v : Nm) : Int := (wayOf ts u v).2
theorem IsTree.is_way {pl : List Nm} {ts : List Tie} (h : IsTree pl ts) {u v : Nm} {p : List Nm} {L : Int} (w : Way ts u v p L) : path ts u v = p ∧ dist ts u v = L := by
  have hx : ∃ x : List Nm × Int, Way ts u v x.1 x.2 := ⟨(p, L), w⟩
  unfold path dist wayOf
  rw [dif_pos hx]
  exact h.one_way hx.choose_spec w
theorem IsTree.the_way {pl : List Nm} {ts : List Tie} (h : IsTree pl ts) {u v : Nm} (hu : u ∈ pl) (hv : v ∈ pl) : Way ts u v (path ts u v) (dist ts u v) := by
  obtain ⟨p, L, w⟩ := h.way hu hv
  obtain ⟨e1, e2⟩ := h.is_way w
  rw [e1, e2]
  exact w
/-- the way back -/
theorem Way.cons {ts : List Tie} {u v w : Nm} {p : List Nm} {L k : Int} (ha : Adj ts w u k) (h : Way ts u v p L) (hn : w ∉ p) : Way ts w v (w :: p) (k + L) := by
  induction h with
  | nil =>
    have := Way.snoc (ts := ts) (u := w) .nil ha (by simpa using fun z => hn (by rw [z]; simp))
    simpa using this
  | @snoc v x p L m h1 hb hx ih =>
    have hn1 : w ∉ p := fun z => hn (List.mem_append_left _ z)
    have hxw : x ∉ w :: p := fun z => by
      rcases List.mem_cons.mp z with z | z
      · exact hn (by rw [z]; simp)
      · exact hx z
    have := Way.snoc (ih hn1) hb hxw
    rw [← Int.add_assoc]
    exact this
theorem Way.rev {ts : List Tie} {u v : Nm} {p : List Nm} {L : Int} (h : Way ts u v p L) : Way ts v u p.reverse L := by
  induction h with
  | nil => exact .nil
  | @snoc v w p L k h1 ha hn ih =>
    rw [List.reverse_append]
    have := Way.cons ha.symm ih (fun z => hn (List.mem_reverse.mp z))
    rw [Int.add_comm L k]
    exact this
theorem IsTree.dist_symm {pl : List Nm} {ts : List Tie} (h : IsTree pl ts) {u v : Nm} (hu : u ∈ pl) (hv : v ∈ pl) : dist ts u v = dist ts v u ∧ path ts v u = (path ts u v).reverse := by
  obtain ⟨e1, e2⟩ := h.is_way (h.the_way hu hv).rev
  exact ⟨e2.symm, e1⟩
theorem IsTree.dist_self {pl : List Nm} {ts : List Tie} (h : IsTree pl ts) (u : Nm) : dist ts u u = 0 ∧ path ts u u = [u] := by
  obtain ⟨e1, e2⟩ := h.is_way (u := u) .nil
  exact ⟨e2, e1⟩
theorem Way.nonneg {ts : List Tie} (hk : ∀ e ∈ ts, 1 ≤ e.2.2) {u v : Nm} {p : List Nm} {L : Int} (h : Way ts u v p L) : 0 ≤ L ∧ (p.length : Int) ≤ L + 1 := by
  induction h with
  | nil => simp
  | @snoc v w p L k _ ha _ ih =>
    have h1 : 1 ≤ k := ha.elim (fun z => hk _ z) fun z => hk _ z
    rw [List.length_append, List.length_singleton]
    omega
section
open PySem.Spec PyProof.Rows L2
/-! ### dicts by places -/
def dkm (fs : List Nm) (f : Nm → V) : List (Key × V) := fs.map fun l => (Sum.inr (S l), f l)
theorem dkm_get {f : Nm → V} {x : Nm} : ∀ {fs : List Nm}, x ∈ fs → valV (dkm fs f) (Sum.inr (S x)) = some (f x)
  | [], h => by simp at h
  | a :: r, h => by
    show valV ((Sum.inr (S a), f a) :: dkm r f) _ = _
    by_cases e : a = x
    · subst e
      exact valV_pos rfl
    · rw [valV_neg (fun z => e (SX.S_inj (Sum.inr.inj z)))]
      refine dkm_get ?_
      rcases List.mem_cons.mp h with z | z
      · exact absurd z.symm e
      · exact z
theorem dkm_no {f : Nm → V} {x : Nm} : ∀ {fs : List Nm}, x ∉ fs → valV (dkm fs f) (Sum.inr (S x)) = none
  | [], _ => rfl
  | a :: r, h => by
    show valV ((Sum.inr (S a), f a) :: dkm r f) _ = _
    rw [valV_neg (fun z => h (List.mem_cons.mpr (.inl (SX.S_inj (Sum.inr.inj z)).symm)))]
    exact dkm_no fun z => h (List.mem_cons.mpr (.inr z))
theorem dkm_cong {f g : Nm → V} {fs : List Nm} (h : ∀ x ∈ fs, f x = g x) : dkm fs f = dkm fs g := List.map_congr_left fun a ha => by rw [h a ha]
theorem dkm_new {f : Nm → V} {x : Nm} {v : V} {fs : List Nm} (h : x ∉ fs) : putK (dkm fs f) (Sum.inr (S x)) v = dkm (fs ++ [x]) (fun z => if z = x then v else f z) := by
  rw [putK_new _ (dkm_no h)]
  unfold dkm
  rw [List.map_append]
  have e : fs.map (fun l => ((Sum.inr (S l) : Key), f l)) = fs.map (fun l => ((Sum.inr (S l) : Key), if l = x then v else f l)) := List.map_congr_left fun a ha => by rw [if_neg (fun (z : a = x) => h (z ▸ ha))]
  rw [e]
  show _ = _ ++ [((Sum.inr (S x) : Key), if x = x then v else f x)]
  rw [if_pos rfl]
theorem dkm_some {f : Nm → V} {x : Nm} {fs : List Nm} : (valV (dkm fs f) (Sum.inr (S x))).isSome = decide (x ∈ fs) := by
  by_cases h : x ∈ fs
  · rw [dkm_get h, decide_eq_true h]
    rfl
  · rw [dkm_no h, decide_eq_false h]
    rfl
theorem tkD {H : Hp} {D : Addr} {kvs : List (Key × V)} {o : HO} (h : H D = some (.dK kvs)) : TK H (upd H D o) :=
  ⟨fun b xs z => by rw [upd_ne (ne_of z h (by intro q; cases q))]; exact z, fun b u xs z => by rw [upd_ne (ne_of z h (by intro q; cases q))]; exact z⟩
/-! ### a walk through a tree: fs come to, st to be gone on from, ex being gone on from -/
structure Wk (pl : List Nm) (ts : List Tie) (u : Nm) (fs st : List Nm) (prev : Nm → Nm) (ex : Nm → Prop) : Prop where
  nd : fs.Nodup
  sub : ∀ x ∈ fs, x ∈ pl
  sti : ∀ x ∈ st, x ∈ fs
  hu : u ∈ fs
  cl : ∀ x ∈ fs, ∀ y ∈ path ts u x, y ∈ fs
  pr : ∀ x ∈ fs, x ≠ u → prev x ∈ fs ∧ path ts u x = path ts u (prev x) ++ [x]
  done : ∀ x ∈ fs, x ∉ st → ¬ ex x → ∀ y k, Adj ts x y k → y ∈ fs
theorem Wk.start {pl : List Nm} {ts : List Tie} (h : IsTree pl ts) {u : Nm} (hu : u ∈ pl) : Wk pl ts u [u] [u] (fun _ => u) (fun _ => False) := by
  refine ⟨by simp, fun x hx => ?_, fun x hx => hx, by simp, fun x hx => ?_, fun x hx n => ?_, fun x hx n => absurd hx n⟩
  · rw [List.mem_singleton.mp hx]
    exact hu
  · rw [List.mem_singleton.mp hx, (h.dist_self u).2]
    exact fun y hy => hy
  · exact absurd (List.mem_singleton.mp hx) n
theorem Wk.pop {pl : List Nm} {ts : List Tie} {u h : Nm} {fs st : List Nm} {prev : Nm → Nm} (w : Wk pl ts u fs (st ++ [h]) prev (fun _ => False)) : h ∈ fs ∧ Wk pl ts u fs st prev (fun x => x = h) := by
  refine ⟨w.sti h (by simp), w.nd, w.sub, fun x hx => w.sti x (List.mem_append_left _ hx), w.hu, w.cl, w.pr, fun x hx n ne => w.done x hx (fun z => ?_) (fun z => z)⟩
  rcases List.mem_append.mp z with z | z
  · exact n z
  · exact ne (List.mem_singleton.mp z)
theorem Wk.push {pl : List Nm} {ts : List Tie} (tr : IsTree pl ts) {u h y : Nm} {k : Int} {fs st : List Nm} {prev : Nm → Nm} {ex : Nm → Prop} (w : Wk pl ts u fs st prev ex) (hh : h ∈ fs) (ha : Adj ts h y k) (hy : y ∉ fs) :
    dist ts u y = dist ts u h + k ∧ Wk pl ts u (fs ++ [y]) (st ++ [y]) (fun z => if z = y then h else prev z) ex := by
  have wh := tr.the_way (w.sub u w.hu) (w.sub h hh)
  have wy := Way.snoc wh ha fun z => hy (w.cl h hh y z)
  obtain ⟨e1, e2⟩ := tr.is_way wy
  have yp : y ∈ pl := by
    rcases ha with z | z
    · exact (tr.ties _ z).2.1
    · exact (tr.ties _ z).1
  refine ⟨e2, nd_snoc' w.nd hy, fun x hx => ?_, fun x hx => ?_, List.mem_append_left _ w.hu, fun x hx z hz => ?_, fun x hx n => ?_, fun x hx n ne z m hz => ?_⟩
  · rcases List.mem_append.mp hx with z | z
    · exact w.sub x z
    · rw [List.mem_singleton.mp z]
      exact yp
  · rcases List.mem_append.mp hx with z | z
    · exact List.mem_append_left _ (w.sti x z)
    · exact List.mem_append_right _ z
  · rcases List.mem_append.mp hx with q | q
    · exact List.mem_append_left _ (w.cl x q z hz)
    · rw [List.mem_singleton.mp q, e1] at hz
      rcases List.mem_append.mp hz with r | r
      · exact List.mem_append_left _ (w.cl h hh z r)
      · exact List.mem_append_right _ r
  · rcases List.mem_append.mp hx with q | q
    · have xy : x ≠ y := fun e => hy (e ▸ q)
      show (if x = y then h else prev x) ∈ fs ++ [y] ∧ path ts u x = path ts u (if x = y then h else prev x) ++ [x]
      rw [if_neg xy]
      exact ⟨List.mem_append_left _ (w.pr x q n).1, (w.pr x q n).2⟩
    · have xy := List.mem_singleton.mp q
      show (if x = y then h else prev x) ∈ fs ++ [y] ∧ path ts u x = path ts u (if x = y then h else prev x) ++ [x]
      rw [if_pos xy, xy]
      exact ⟨List.mem_append_left _ hh, e1⟩
  · rcases List.mem_append.mp hx with q | q
    · exact List.mem_append_left _ (w.done x q (fun r => n (List.mem_append_left _ r)) ne z m hz)
    · exact absurd (List.mem_append_right _ q) n
theorem Wk.shut {pl : List Nm} {ts : List Tie} {u h : Nm} {fs st : List Nm} {prev : Nm → Nm} (w : Wk pl ts u fs st prev (fun x => x = h)) (hd : ∀ y k, Adj ts h y k → y ∈ fs) : Wk pl ts u fs st prev (fun _ => False) :=
  ⟨w.nd, w.sub, w.sti, w.hu, w.cl, w.pr, fun x hx n _ y k ha => by
    by_cases e : x = h
    · rw [e] at ha
      exact hd y k ha
    · exact w.done x hx n e y k ha⟩
theorem Wk.all {pl : List Nm} {ts : List Tie} (tr : IsTree pl ts) {u : Nm} {fs : List Nm} {prev : Nm → Nm} (w : Wk pl ts u fs [] prev (fun _ => False)) : ∀ x, x ∈ fs ↔ x ∈ pl := fun x =>
  ⟨w.sub x, fun hx => tr.all_of (F := fun z => z ∈ fs) (w.sub u w.hu) w.hu (fun a b k ha hab => w.done a ha (by simp) (fun z => z) b k hab) x hx⟩
structure Fine (pl : List Nm) (ts : List Tie) : Prop where
  tree : IsTree pl ts
  ok : ∀ l ∈ pl, NameOk l
  len : pl.length ≤ 1000
theorem Fine.okT {pl : List Nm} {ts : List Tie} (F : Fine pl ts) {e : Tie} (he : e ∈ ts) : NameOk e.1 ∧ NameOk e.2.1 := by
  obtain ⟨i1, i2, _⟩ := F.tree.ties e he
  exact ⟨F.ok _ i1, F.ok _ i2⟩
theorem Fine.ne {pl : List Nm} {ts : List Tie} (F : Fine pl ts) : pl ≠ [] := fun z => by
  have := F.tree.len
  rw [z] at this
  simp at this
theorem dt_pair {H : Hp} {v : V} {d e : PyData} (h : Dt H v (.tuple [d, e])) (ne : ∀ l : Nm, e ≠ strD l) : ∃ (a : Addr) (x y : V), v = .ref a ∧ H a = some (.tup [x, y]) ∧ Dt H x d ∧ Dt H y e := by
  cases h with
  | tup ha hs =>
    cases hs with
    | cons h1 hr =>
      cases hr with
      | cons h2 hn =>
        cases hn
        exact ⟨_, _, _, rfl, ha, h1, h2⟩
  | @tupZ a pl _ o e _ _ _ =>
    exfalso
    cases pl with
    | nil => cases e
    | cons l r =>
      cases r with
      | nil => cases e
      | cons l2 r2 => exact ne l2 (List.cons.inj (List.cons.inj e).2).1
theorem dt_tup {H : Hp} {v : V} {ds : List PyData} (h : Dt H v (.tuple ds)) (ne : ds ≠ [] → ∃ d ∈ ds, ∀ l : Nm, d ≠ strD l) : ∃ (a : Addr) (xs : List V), v = .ref a ∧ H a = some (.tup xs) ∧ DtAll H xs ds := by
  cases h with
  | tup ha hs => exact ⟨_, _, rfl, ha, hs⟩
  | @tupZ a pl _ o e n _ _ =>
    exfalso
    obtain ⟨d, hd, no⟩ := ne (by rw [e]; simpa using n)
    rw [e] at hd
    obtain ⟨l, _, z⟩ := List.mem_map.mp hd
    exact no l z.symm
theorem dt_names {H : Hp} {v : V} {pl : List Nm} (h : Dt H v (.tuple (pl.map strD))) : ∃ a : Addr, v = .ref a ∧ TupAt H a ((pl.map S).map V.str) := by
  have inj : ∀ {p q : List Nm}, p.map strD = q.map strD → p = q := by
    intro p
    induction p with
    | nil =>
      intro q e
      cases q with
      | nil => rfl
      | cons _ _ => cases e
    | cons a r ih =>
      intro q e
      cases q with
      | nil => cases e
      | cons b t =>
        have e' := List.cons.inj e
        have h1 : S a = S b := PyData.str.inj e'.1
        rw [SX.S_inj h1, ih e'.2]
  generalize hd : pl.map strD = ds at h
  cases h with
  | tup ha hs =>
    subst hd
    rw [DtAll.strs hs] at ha
    exact ⟨_, rfl, .inl ha⟩
  | @tupZ a pl2 _ o e n d ha =>
    rw [← inj (hd.trans e)] at ha
    exact ⟨_, rfl, .inr ⟨o, d, ha⟩⟩
theorem tie_no (e : Tie) (l : Nm) : tieD e ≠ strD l := fun z => nomatch z
/-- a tree in the heap: its parts -/
theorem dt_tree {H : Hp} {v : V} {pl : List Nm} {ts : List Tie} (h : Dt H v (treeD pl ts)) : ∃ (t a b : Addr) (vs : List V), v = .ref t ∧ H t = some (.tup [.ref a, .ref b]) ∧ TupAt H a ((pl.map S).map V.str) ∧ H b = some (.tup vs) ∧ DtAll H vs (ts.map tieD) := by
  obtain ⟨t, x, y, rfl, ht, hx, hy⟩ := dt_pair h fun l z => nomatch z
  obtain ⟨a, rfl, ha⟩ := dt_names hx
  obtain ⟨b, vs, rfl, hb, hv⟩ := dt_tup hy fun n => by
    cases ts with
    | nil => exact absurd rfl n
    | cons e r => exact ⟨tieD e, List.mem_cons_self .., tie_no e⟩
  exact ⟨t, a, b, vs, rfl, ht, ha, hb, hv⟩
theorem dt_tie {H : Hp} {v : V} {e : Tie} (h : Dt H v (tieD e)) : ∃ t : Addr, v = .ref t ∧ H t = some (.tup [.str (S e.1), .str (S e.2.1), .int e.2.2]) := by
  obtain ⟨t, xs, rfl, ht, hs⟩ := dt_tup h fun _ => ⟨.int e.2.2, by simp [tieD], fun l z => nomatch z⟩
  cases hs with
  | cons h1 hr =>
    cases hr with
    | cons h2 hr =>
      cases hr with
      | cons h3 hr =>
        cases hr
        cases h1
        cases h2
        cases h3
        exact ⟨t, rfl, ht⟩
end
end Far

namespace Far
open PySem PySem.Spec PyProof.Rows L2
open C8 (pss_cut tCut)
open SX (S)
/-- the lengths from u to those of fs at fa, those come to at wa, all else as at H0 -/
structure LW (H0 H' : Hp) (fa wa : Addr) (ts : List Tie) (u : Nm) (fs st : List Nm) : Prop where
  same : Same H0 H'
  far : H' fa = some (.dK (dkm fs fun x => .int (dist ts u x)))
  wait : H' wa = some (.lst ((st.map S).map V.str))
theorem LW.ne {H0 H' : Hp} {fa wa : Addr} {ts : List Tie} {u : Nm} {fs st : List Nm} (w : LW H0 H' fa wa ts u fs st) : fa ≠ wa := ne_of w.far w.wait (by intro z; cases z)
theorem LW.new {H0 H' : Hp} {fa wa p : Addr} {o : HO} {ts : List Tie} {u : Nm} {fs st : List Nm} (w : LW H0 H' fa wa ts u fs st) (np : H' p = none) : LW H0 (upd H' p o) fa wa ts u fs st :=
  ⟨same_new w.same np, by rw [upd_ne (ne_of_none w.far np)]; exact w.far, by rw [upd_ne (ne_of_none w.wait np)]; exact w.wait⟩
theorem LW.setW {H0 H' : Hp} {fa wa : Addr} {ts : List Tie} {u : Nm} {fs st st' : List Nm} (w : LW H0 H' fa wa ts u fs st) (n0 : H0 wa = none) : LW H0 (upd H' wa (.lst ((st'.map S).map V.str))) fa wa ts u fs st' :=
  ⟨same_put w.same n0, by rw [upd_ne w.ne]; exact w.far, upd_same⟩
theorem LW.setF {H0 H' : Hp} {fa wa : Addr} {ts : List Tie} {u y : Nm} {n : Int} {fs st : List Nm} (w : LW H0 H' fa wa ts u fs st) (n0 : H0 fa = none) (e : dist ts u y = n) : LW H0 (upd H' fa (.dK (dkm (fs ++ [y]) fun z => if z = y then V.int n else .int (dist ts u z)))) fa wa ts u (fs ++ [y]) st := by
  refine ⟨same_put w.same n0, ?_, by rw [upd_ne w.ne.symm]; exact w.wait⟩
  rw [upd_same]
  refine congrArg (fun z => some (HO.dK z)) (dkm_cong fun z _ => ?_)
  by_cases q : z = y
  · rw [if_pos q, q, e]
  · rw [if_neg q]
/-- the first i ties are gone along from h -/
def NbT (l : List Tie) (h : Nm) (fs : List Nm) : Prop := ∀ e ∈ l, (e.1 = h → e.2.1 ∈ fs) ∧ (e.2.1 = h → e.1 ∈ fs)
theorem NbT.more {l : List Tie} {h y : Nm} {fs : List Nm} (n : NbT l h fs) : NbT l h (fs ++ [y]) := fun e he => ⟨fun z => List.mem_append_left _ ((n e he).1 z), fun z => List.mem_append_left _ ((n e he).2 z)⟩
theorem Wk.popH {pl : List Nm} {ts : List Tie} {u h : Nm} {fs st : List Nm} {prev : Nm → Nm} (w : Wk pl ts u fs (h :: st) prev (fun _ => False)) : h ∈ fs ∧ Wk pl ts u fs st prev (fun x => x = h) := by
  refine ⟨w.sti h (by simp), w.nd, w.sub, fun x hx => w.sti x (List.mem_cons_of_mem _ hx), w.hu, w.cl, w.pr, fun x hx n ne => w.done x hx (fun z => ?_) (fun z => z)⟩
  rcases List.mem_cons.mp z with z | z
  · exact ne z
  · exact n z
abbrev s_law_lengths : Stmt := topS 24
abbrev N_law_lengths : List Str := ["tree", "place", "found", "layer", "behind", "here", "one", "other", "length", "near", "there"]
theorem sc_law_lengths : FnScope N_law_lengths ["tree", "place"] (defScope s_law_lengths) := ⟨rfl, rfl, rfl, by decide +kernel, rfl, by decide +kernel, by decide +kernel⟩
section
variable {P : Program} {w : World} {K : PySem.W.Frag} {mg : Str → Option Value} {base : Heap}
def spLay : Sp := fun vs H Q _ => ∃ (v : V) (pl : List Nm) (ts : List Tie) (u : Nm), vs = [v, .str (S u)] ∧ Dt H v (treeD pl ts) ∧ Fine pl ts ∧ u ∈ pl ∧
  ∀ (H' : Hp) (D : Addr) (fs : List Nm), Same H H' → H D = none → H' D = some (.dK (dkm fs fun x => .int (dist ts u x))) → fs.Nodup → (∀ x, x ∈ fs ↔ x ∈ pl) → Q (.ref D) H'
theorem ok_lay {f : Addr} {fd : FuncData} (F : Fun K "_law_lengths" "_law_lengths" s_law_lengths f fd) : FnOk P w K mg base CX0 2 f fd ["tree", "place"] spLay := by
  refine F.ok sc_law_lengths (fun vs H Q E h => ?_) (fun cdv A outer s H vs Q E hr h => ?_)
  · obtain ⟨v, pl, ts, u, rfl, _⟩ := h
    rfl
  · obtain ⟨v, pl, ts, u, rfl, hd, fine, hu, q⟩ := h
    obtain ⟨t, a, b, vs, rfl, ht, ha, hb, hA⟩ := dt_tree hd
    have tr := fine.tree
    have nd := tr.nodup
    have pl1 := fine.len
    have tl1 := tr.len
    have vl : vs.length = ts.length := by
      have := DtAll.len hA
      rwa [List.length_map] at this
    refine ⟨_, (pss_cons (ps_set (i := 2) sc_law_lengths.nd rfl (.inl rfl) (pe_disp (pps_cons (pv 1) pe_int pps_nil) (by rfl) (by rfl) (fun z => by cases z) (by decide)))
      (pss_cons (ps_set (i := 3) sc_law_lengths.nd rfl (.inl rfl) (pe_lst (pa_cons (pv 1) pa_nil)))
      (pss_cut (ps_while PassesOwn.never (pt_cmpR (op_neD (hd_of hr (by decide))) (pv 3) (pe_lst pa_nil) (nomark _))
        (pss_cons (ps_set (i := 4) sc_law_lengths.nd rfl (.inl rfl) (pe_lst pa_nil))
        (pss_cut (ps_for PassesOwn.never rfl (pi_list (pv 3)) (pg_name (i := 5) sc_law_lengths.nd rfl (.inl rfl))
          (pss_one (ps_for PassesOwn.never rfl (pi_tup (pe_ix ix_tup (pv 0) pe_int (fun _ _ => rfl))) (pg_tup rfl (pgs_cons (pg_name (i := 6) sc_law_lengths.nd rfl (.inl rfl)) (pgs_cons (pg_name (i := 7) sc_law_lengths.nd rfl (.inl rfl)) (pgs_cons (pg_name (i := 8) sc_law_lengths.nd rfl (.inl rfl)) pgs_nil))))
            (pss_one (ps_for PassesOwn.never rfl (pi_list (pe_lst (pa_cons (pe_tup (pa_cons (pv 6) (pa_cons (pv 7) pa_nil))) (pa_cons (pe_tup (pa_cons (pv 7) (pa_cons (pv 6) pa_nil))) pa_nil)))) (pg_tup rfl (pgs_cons (pg_name (i := 9) sc_law_lengths.nd rfl (.inl rfl)) (pgs_cons (pg_name (i := 10) sc_law_lengths.nd rfl (.inl rfl)) pgs_nil)))
              (pss_one (ps_if (PW.pt (pw_and (pt_cmpR op_eq (pv 9) (pv 5) (nomark _)) (pw_and1 (pt_cmp (pc_dnotin (hu_of hr) (pv 10) (pv 2))))))
                (pss_cons (ps_dput (hu_of hr) (pv 2) (pv 10) (pe_op op_add (pe_dget (hu_of hr) (pv 2) (pv 5) (fun _ _ => rfl)) (pv 8)) rfl)
                (pss_one (ps_expr (pe_bm PySem.F.plainAttrs_list PySem.F.slot_list_append PySem.F.type_list_append mt_append (pv 4) (pa_cons (pv 10) pa_nil)))))
                pss_nil)))))))
        (pss_one (ps_set (i := 3) sc_law_lengths.nd rfl (.inl rfl) (pv 4))))))
      (pss_one (ps_ret (pv 2)))))), ?_⟩
    refine fun fa nfa => ⟨_, rfl, upd_same, [(Sum.inr (S u), .int 0)], rfl, (by decide : 1 ≤ 15), ?_⟩
    rw [upd_upd]
    refine ⟨_, rfl, (by show 1 ≤ sizeLine; decide), fun l0 nl0 => ?_⟩
    have fw : fa ≠ l0 := ne_of_none upd_same nl0
    have L0 : LW H (upd (upd H fa (.dK (mergeK [] [((Sum.inr (S u) : Key), V.int 0)]))) l0 (.lst [.str (S u)])) fa l0 ts u [u] [u] := by
      refine ⟨same_new (same_new (Same.refl H) nfa) nl0, ?_, upd_same⟩
      rw [upd_ne fw]
      refine upd_same.trans ?_
      unfold dkm
      rw [List.map_singleton]
      show some (HO.dK [((Sum.inr (S u) : Key), V.int 0)]) = some (HO.dK [((Sum.inr (S u) : Key), V.int (dist ts u u))])
      rw [(tr.dist_self u).1]
    generalize upd (upd H fa (.dK (mergeK [] [((Sum.inr (S u) : Key), V.int 0)]))) l0 (.lst [.str (S u)]) = H1 at L0
    -- the walk
    refine ⟨fun σ2 H2 => ∃ (fs : List Nm) (prev : Nm → Nm) (la : Addr) (x4 x5 x6 x7 x8 x9 x10 : Option V), σ2 = [some (.ref t), some (.str (S u)), some (.ref fa), some (.ref la), x4, x5, x6, x7, x8, x9, x10] ∧ LW H H2 fa la ts u fs [] ∧ Wk pl ts u fs [] prev (fun _ => False), ?_, fun σ2 H2 hM => ?_⟩
    rotate_left
    · obtain ⟨fs, prev, la, x4, x5, x6, x7, x8, x9, x10, rfl, L2', wk⟩ := hM
      exact ⟨_, rfl, q H2 fa fs L2'.same nfa L2'.far wk.nd (wk.all tr)⟩
    · refine ⟨fun m σ2 H2 => ∃ (fs L : List Nm) (prev : Nm → Nm) (la : Addr) (x4 x5 x6 x7 x8 x9 x10 : Option V), σ2 = [some (.ref t), some (.str (S u)), some (.ref fa), some (.ref la), x4, x5, x6, x7, x8, x9, x10] ∧ LW H H2 fa la ts u fs L ∧ Wk pl ts u fs L prev (fun _ => False) ∧ L.length ≤ fs.length ∧ 2 * fs.length + m = 2 * pl.length + L.length,
        ⟨2 * pl.length - 1, [u], [u], fun _ => u, l0, none, none, none, none, none, none, none, rfl, L0, Wk.start tr hu, Nat.le_refl _, by have := List.length_pos_of_mem hu; simp; omega⟩, ?_⟩
      rintro m σ2 H2 ⟨fs, L, prev, la, x4, x5, x6, x7, x8, x9, x10, rfl, L2', wk, sl, em⟩
      refine ⟨_, rfl, Nat.zero_le _, fun p2 np2 => ?_⟩
      have L3 := L2'.new (o := .lst []) np2
      have ok : ∀ l ∈ L, NameOk l := fun l hl => fine.ok l (wk.sub l (wk.sti l hl))
      refine ⟨_, _, .lst (SqL.of L3.wait) (dp_strs _ _ L), .lst (SqL.of upd_same) .nil, shaped_strs ok, rfl, _, rfl, ?_⟩
      refine ite2 (fun e1 => ?_) (fun e1 => ?_)
      rotate_left
      · have st0 : L = [] := by
          cases L with
          | nil => rfl
          | cons a r => exact absurd rfl e1
        subst st0
        exact ⟨fs, prev, la, _, _, _, _, _, _, _, rfl, L3, wk⟩
      · have Lpos : 0 < L.length := by
          cases L with
          | nil => exact absurd e1 (by decide)
          | cons a r => simp
        have fl := nodup_sub_len fs pl wk.nd wk.sub
        refine ⟨fun σ' H'' => ∃ (fs' L' : List Nm) (prev' : Nm → Nm) (la' : Addr) (x4 x5 x6 x7 x8 x9 x10 : Option V), σ' = [some (.ref t), some (.str (S u)), some (.ref fa), some (.ref la'), x4, x5, x6, x7, x8, x9, x10] ∧ LW H H'' fa la' ts u fs' L' ∧ Wk pl ts u fs' L' prev' (fun _ => False) ∧ fs'.length = fs.length + L'.length, ?_, ?_⟩
        · rintro σ' H'' ⟨fs', L', prev', la', y4, y5, y6, y7, y8, y9, y10, e1, e2, e7, e8⟩
          have fl' := nodup_sub_len fs' pl e7.nd e7.sub
          exact ⟨2 * pl.length + L'.length - 2 * fs'.length, by omega, fs', L', prev', la', y4, y5, y6, y7, y8, y9, y10, e1, e2, e7, by omega, by omega⟩
        generalize upd H2 p2 (.lst []) = H3 at L3
        refine ⟨Nat.zero_le _, fun be nbe => ?_⟩
        have hla := L3.wait
        have lb : la ≠ be := ne_of_none hla nbe
        have be0 : H be = none := L3.same.free nbe
        have LB : LW H (upd H3 be (.lst [])) fa be ts u fs [] := ⟨same_new L3.same nbe, by rw [upd_ne (ne_of_none L3.far nbe)]; exact L3.far, upd_same⟩
        have hla2 : (upd H3 be (.lst [])) la = some (.lst ((L.map S).map V.str)) := by rw [upd_ne lb]; exact hla
        generalize upd H3 be (.lst []) = H4 at LB hla2
        refine ⟨fun σ' H'' => ∃ (fs' bh : List Nm) (prev' : Nm → Nm) (x5 x6 x7 x8 x9 x10 : Option V), σ' = [some (.ref t), some (.str (S u)), some (.ref fa), some (.ref la), some (.ref be), x5, x6, x7, x8, x9, x10] ∧ LW H H'' fa be ts u fs' bh ∧ Wk pl ts u fs' bh prev' (fun _ => False) ∧ fs'.length = fs.length + bh.length, ?_, fun σ' H'' hM => ?_⟩
        rotate_left
        · obtain ⟨fs', bh, prev', y5, y6, y7, y8, y9, y10, rfl, LE, wkE, lE⟩ := hM
          exact ⟨_, rfl, fs', bh, prev', be, _, _, _, _, _, _, _, rfl, LE, wkE, lE⟩
        · refine ⟨_, rfl, la, rfl, ⟨_, SqL.of hla2⟩, for_list (K := K) (a := la) (xs := (L.map S).map V.str) (fun i σ' H'' => ∃ (fs' bh : List Nm) (prev' : Nm → Nm) (x5 x6 x7 x8 x9 x10 : Option V), σ' = [some (.ref t), some (.str (S u)), some (.ref fa), some (.ref la), some (.ref be), x5, x6, x7, x8, x9, x10] ∧ LW H H'' fa be ts u fs' bh ∧ H'' la = some (.lst ((L.map S).map V.str)) ∧ Wk pl ts u fs' (L.drop i ++ bh) prev' (fun _ => False) ∧ fs'.length = fs.length + bh.length)
            ⟨fs, [], prev, x5, x6, x7, x8, x9, x10, rfl, LB, hla2, by rw [List.drop_zero, List.append_nil]; exact wk, rfl⟩ (fun i σ' H'' _ hP => ?_) (fun i x σ' H'' hi hP => ?_) (fun σ' H'' hP => ?_)⟩
          · obtain ⟨_, _, _, _, _, _, _, _, _, _, _, h, _⟩ := hP
            exact SqL.of h
          · obtain ⟨fs1, bh1, prev1, y5, y6, y7, y8, y9, y10, rfl, L4, hla4, wk4, em4⟩ := hP
            rw [List.getElem?_map, List.getElem?_map] at hi
            cases eh : L[i]? with
            | none => rw [eh] at hi; cases hi
            | some h =>
              rw [eh] at hi
              have ex : x = .str (S h) := (Option.some.inj hi).symm
              subst ex
              obtain ⟨iL, ehL⟩ := List.getElem?_eq_some_iff.mp eh
              rw [List.drop_eq_getElem_cons iL, ehL, List.cons_append] at wk4
              obtain ⟨hh, wk1⟩ := wk4.popH
              generalize L.drop (i + 1) = R at wk1
              -- the ties
              refine ⟨_, rfl, t, _, 1, .ref b, rfl, rfl, SqT.of (L4.same _ _ ht), atI_nat (j := 1) rfl, b, rfl, ⟨_, SqT.of (L4.same _ _ hb)⟩, for_tup (K := K) (a := b) (xs := vs) (fun i σ' H'' => ∃ (fs' bh : List Nm) (prev' : Nm → Nm) (x6 x7 x8 x9 x10 : Option V), σ' = [some (.ref t), some (.str (S u)), some (.ref fa), some (.ref la), some (.ref be), some (.str (S h)), x6, x7, x8, x9, x10] ∧ LW H H'' fa be ts u fs' bh ∧ H'' la = some (.lst ((L.map S).map V.str)) ∧ Wk pl ts u fs' (R ++ bh) prev' (fun x => x = h) ∧ fs'.length = fs.length + bh.length ∧ h ∈ fs' ∧ NbT (ts.take i) h fs')
                ⟨fs1, bh1, prev1, y6, y7, y8, y9, y10, rfl, L4, hla4, wk1, em4, hh, fun e he => (by cases he)⟩ (fun i σ' H'' _ hP => ?_) (fun i x σ' H'' hi hP => ?_) (fun σ' H'' hP => ?_)⟩
              · obtain ⟨_, _, _, _, _, _, _, _, _, L5, _⟩ := hP
                exact SqT.of (L5.same _ _ hb)
              · obtain ⟨fs', bh, prev', y6, y7, y8, y9, y10, rfl, L5, hla5, wk5, em5, hh5, nb5⟩ := hP
                obtain ⟨d, hd', hx⟩ := DtAll.get hA hi
                rw [List.getElem?_map] at hd'
                cases ee : ts[i]? with
                | none =>
                  rw [ee] at hd'
                  cases hd'
                | some e =>
                  rw [ee] at hd'
                  have ed : d = tieD e := (Option.some.inj hd').symm
                  subst ed
                  obtain ⟨g, rfl, hg⟩ := dt_tie hx
                  have hem : e ∈ ts := List.mem_of_getElem? ee
                  have et : ts.take (i + 1) = ts.take i ++ [e] := by
                    rw [List.take_add_one, ee]
                    rfl
                  refine ⟨g, _, rfl, SqT.of (L5.same _ _ hg), rfl, _, _, rfl, _, _, rfl, _, _, rfl, rfl, ?_⟩
                  -- the two ways about
                  refine ⟨_, rfl, _, rfl, (by show 2 ≤ sizeLine; decide), fun c1 nc1 => ?_⟩
                  have L6 := L5.new (o := .tup [.str (S e.1), .str (S e.2.1)]) nc1
                  have hla6 := same_new (o := .tup [.str (S e.1), .str (S e.2.1)]) (Same.refl H'') nc1 _ _ hla5
                  refine ⟨_, rfl, _, rfl, (by show 2 ≤ sizeLine; decide), fun c2 nc2 => ?_⟩
                  have L7 := L6.new (o := .tup [.str (S e.2.1), .str (S e.1)]) nc2
                  have hla7 := same_new (o := .tup [.str (S e.2.1), .str (S e.1)]) (Same.refl _) nc2 _ _ hla6
                  refine ⟨(by show 2 ≤ sizeLine; decide), fun c3 nc3 => ?_⟩
                  have cb : c3 ≠ be := fun z => by
                    have := L7.wait
                    rw [← z, nc3] at this
                    cases this
                  have L8 := L7.new (o := .lst [.ref c1, .ref c2]) nc3
                  have hla8 := same_new (o := .lst [.ref c1, .ref c2]) (Same.refl _) nc3 _ _ hla7
                  have h1 : (upd (upd (upd H'' c1 (.tup [.str (S e.1), .str (S e.2.1)])) c2 (.tup [.str (S e.2.1), .str (S e.1)])) c3 (.lst [.ref c1, .ref c2])) c1 = some (.tup [.str (S e.1), .str (S e.2.1)]) := ((TK.new nc2).trans (TK.new nc3)).tup _ _ upd_same
                  have h2 : (upd (upd (upd H'' c1 (.tup [.str (S e.1), .str (S e.2.1)])) c2 (.tup [.str (S e.2.1), .str (S e.1)])) c3 (.lst [.ref c1, .ref c2])) c2 = some (.tup [.str (S e.2.1), .str (S e.1)]) := (TK.new nc3).tup _ _ upd_same
                  have h3 : (upd (upd (upd H'' c1 (.tup [.str (S e.1), .str (S e.2.1)])) c2 (.tup [.str (S e.2.1), .str (S e.1)])) c3 (.lst [.ref c1, .ref c2])) c3 = some (.lst [.ref c1, .ref c2]) := upd_same
                  generalize upd (upd (upd H'' c1 (.tup [.str (S e.1), .str (S e.2.1)])) c2 (.tup [.str (S e.2.1), .str (S e.1)])) c3 (.lst [.ref c1, .ref c2]) = H8 at L8 h1 h2 h3 hla8
                  refine ⟨c3, rfl, ⟨_, SqL.of h3⟩, for_list (K := K) (a := c3) (xs := [.ref c1, .ref c2]) (fun j σ' H9 => ∃ (fs' bh : List Nm) (prev' : Nm → Nm) (x9 x10 : Option V), σ' = [some (.ref t), some (.str (S u)), some (.ref fa), some (.ref la), some (.ref be), some (.str (S h)), some (.str (S e.1)), some (.str (S e.2.1)), some (.int e.2.2), x9, x10] ∧ LW H H9 fa be ts u fs' bh ∧ H9 la = some (.lst ((L.map S).map V.str)) ∧ H9 c3 = some (.lst [.ref c1, .ref c2]) ∧ TK H8 H9 ∧ Wk pl ts u fs' (R ++ bh) prev' (fun x => x = h) ∧ fs'.length = fs.length + bh.length ∧ h ∈ fs' ∧ NbT (ts.take i) h fs' ∧ (1 ≤ j → e.1 = h → e.2.1 ∈ fs') ∧ (2 ≤ j → e.2.1 = h → e.1 ∈ fs'))
                    ⟨fs', bh, prev', y9, y10, rfl, L8, hla8, h3, TK.refl _, wk5, em5, hh5, nb5, fun z => absurd z (by omega), fun z => absurd z (by omega)⟩ (fun j σ' H9 _ hP => ?_) (fun j x σ' H9 hj hP => ?_) (fun σ' H9 hP => ?_)⟩
                  · obtain ⟨_, _, _, _, _, _, _, _, h, _⟩ := hP
                    exact SqL.of h
                  · clear wk5 em5 hh5 nb5 L5 L6 L7 L8 hla5 hla6 hla7 hla8
                    clear fs' bh prev'
                    obtain ⟨fs', bh, prev', y9, y10, rfl, L9, hla9, hc9, tk9, wk9, em9, hh9, nb9, n1, n2⟩ := hP
                    obtain ⟨cc, pp, qq, rfl, hcc, hpq⟩ : ∃ (cc : Addr) (pp qq : Nm), x = .ref cc ∧ H8 cc = some (.tup [.str (S pp), .str (S qq)]) ∧ ((j = 0 ∧ pp = e.1 ∧ qq = e.2.1) ∨ (j = 1 ∧ pp = e.2.1 ∧ qq = e.1)) := by
                      match j, hj with
                      | 0, hj => exact ⟨c1, _, _, (Option.some.inj hj).symm, h1, .inl ⟨rfl, rfl, rfl⟩⟩
                      | 1, hj => exact ⟨c2, _, _, (Option.some.inj hj).symm, h2, .inr ⟨rfl, rfl, rfl⟩⟩
                    have adj : Adj ts pp qq e.2.2 := by
                      rcases hpq with ⟨_, z1, z2⟩ | ⟨_, z1, z2⟩ <;> rw [z1, z2]
                      · exact .inl hem
                      · exact .inr hem
                    have fl' := nodup_sub_len fs' pl wk9.nd wk9.sub
                    have szf : ∀ f : Nm → V, (dkm fs' f).length < sizeLine := fun f => by
                      unfold dkm
                      rw [List.length_map]
                      exact sz_lt (by omega)
                    have nx : ∀ fs2 : List Nm, (∀ x ∈ fs', x ∈ fs2) → (pp = h → qq ∈ fs2) → NbT (ts.take i) h fs2 ∧ (1 ≤ j + 1 → e.1 = h → e.2.1 ∈ fs2) ∧ (2 ≤ j + 1 → e.2.1 = h → e.1 ∈ fs2) := fun fs2 sub hq => by
                      refine ⟨fun e' he' => ⟨fun z => sub _ ((nb9 e' he').1 z), fun z => sub _ ((nb9 e' he').2 z)⟩, fun _ z => ?_, fun z2 z => ?_⟩
                      · rcases hpq with ⟨j0, z1, z2⟩ | ⟨j1, z1, z2⟩
                        · rw [← z2]
                          exact hq (z1.trans z)
                        · exact sub _ (n1 (by omega) z)
                      · rcases hpq with ⟨j0, z1, z2'⟩ | ⟨j1, z1, z2'⟩
                        · omega
                        · rw [← z2']
                          exact hq (z1.trans z)
                    refine ⟨cc, _, rfl, SqT.of (tk9.tup _ _ hcc), rfl, _, _, rfl, _, _, rfl, rfl, ?_⟩
                    refine ⟨_, rfl, _, rfl, rfl, _, rfl, ?_⟩
                    refine ite2 (fun z1 => ?_) (fun z1 => ?_)
                    · have ph : pp = h := by
                        have := of_decide_eq_true z1
                        exact SX.S_inj (V.str.inj this)
                      refine ⟨_, rfl, _, rfl, fa, _, rfl, DGet.k (k := Sum.inr (S qq)) L9.far, _, rfl, ?_⟩
                      rw [dkm_some]
                      by_cases hy : qq ∈ fs'
                      · rw [decide_eq_true hy]
                        obtain ⟨k1, k2, k3⟩ := nx fs' (fun _ z => z) fun _ => hy
                        exact iteF ⟨fs', bh, prev', _, _, rfl, L9, hla9, hc9, tk9, wk9, em9, hh9, k1, k2, k3⟩
                      · rw [decide_eq_false hy]
                        refine iteT ?_
                        rw [ph] at adj
                        obtain ⟨e1, wk8⟩ := wk9.push tr hh9 adj hy
                        refine ⟨_, rfl, _, rfl, fa, .int (dist ts u h), rfl, by rw [← dkm_get (f := fun x => V.int (dist ts u x)) hh9]; exact DGet.k (k := Sum.inr (S h)) L9.far, _, rfl, _, _, rfl, rfl, _, rfl, _, rfl, fa, _, rfl, DPut.k (k := Sum.inr (S qq)) L9.far (szf _), ?_⟩
                        rw [dkm_new hy]
                        have L10 := L9.setF nfa e1
                        have tk10 := tk9.trans (tkD (o := .dK (dkm (fs' ++ [qq]) fun z => if z = qq then V.int (dist ts u h + e.2.2) else .int (dist ts u z))) L9.far)
                        have hla10 : (upd H9 fa (.dK (dkm (fs' ++ [qq]) fun z => if z = qq then V.int (dist ts u h + e.2.2) else .int (dist ts u z)))) la = some (.lst ((L.map S).map V.str)) := by rw [upd_ne (ne_of hla9 L9.far (by intro z; cases z))]; exact hla9
                        have hc10 : (upd H9 fa (.dK (dkm (fs' ++ [qq]) fun z => if z = qq then V.int (dist ts u h + e.2.2) else .int (dist ts u z)))) c3 = some (.lst [.ref c1, .ref c2]) := by rw [upd_ne (ne_of hc9 L9.far (by intro z; cases z))]; exact hc9
                        generalize upd H9 fa (.dK (dkm (fs' ++ [qq]) fun z => if z = qq then V.int (dist ts u h + e.2.2) else .int (dist ts u z))) = H10 at L10 tk10 hla10 hc10
                        have stl : bh.length ≤ 3000 := by omega
                        refine ⟨_, rfl, .inl ⟨rfl, _, SqL.of L10.wait⟩, _, rfl, be, _, _, rfl, rfl, L10.wait, by rw [List.length_map, List.length_map]; exact sz_lt (by omega), ?_⟩
                        obtain ⟨k1, k2, k3⟩ := nx (fs' ++ [qq]) (fun _ z => List.mem_append_left _ z) fun _ => List.mem_append_right _ (List.mem_singleton.mpr rfl)
                        have ea : (bh.map S).map V.str ++ [V.str (S qq)] = ((bh ++ [qq]).map S).map V.str := by
                          rw [List.map_append, List.map_append]
                          rfl
                        rw [ea]
                        rw [List.append_assoc] at wk8
                        exact ⟨fs' ++ [qq], bh ++ [qq], _, _, _, rfl, L10.setW be0, by rw [upd_ne lb]; exact hla10, by rw [upd_ne cb]; exact hc10, tk10.trans (TK.mut L10.wait), wk8, by rw [List.length_append, List.length_append]; simp; omega, List.mem_append_left _ hh9, k1, k2, k3⟩
                    · have ph : pp ≠ h := fun z => by
                        rw [z] at z1
                        exact z1 (decide_eq_true rfl)
                      obtain ⟨k1, k2, k3⟩ := nx fs' (fun _ z => z) fun z => absurd z ph
                      exact ⟨fs', bh, prev', _, _, rfl, L9, hla9, hc9, tk9, wk9, em9, hh9, k1, k2, k3⟩
                  · obtain ⟨fs', bh, prev', y9, y10, rfl, L9, hla9, hc9, tk9, wk9, em9, hh9, nb9, n1, n2⟩ := hP
                    refine ⟨fs', bh, prev', _, _, _, _, _, rfl, L9, hla9, wk9, em9, hh9, fun e' he' => ?_⟩
                    rw [et] at he'
                    rcases List.mem_append.mp he' with z | z
                    · exact nb9 e' z
                    · rw [List.mem_singleton.mp z]
                      exact ⟨n1 (by simp), n2 (by simp)⟩
              · obtain ⟨fs', bh, prev', y6, y7, y8, y9, y10, rfl, L5, hla5, wk5, em5, hh5, nb5⟩ := hP
                rw [vl, List.take_length] at nb5
                refine ⟨fs', bh, prev', _, _, _, _, _, _, rfl, L5, hla5, wk5.shut fun y k hadj => ?_, em5⟩
                rcases hadj with z | z
                · exact (nb5 _ z).1 rfl
                · exact (nb5 _ z).2 rfl
          · obtain ⟨fs', bh, prev', y5, y6, y7, y8, y9, y10, rfl, LE, _, wkE, lE⟩ := hP
            rw [List.length_map, List.length_map, List.drop_length, List.nil_append] at wkE
            exact ⟨fs', bh, prev', y5, y6, y7, y8, y9, y10, rfl, LE, wkE, lE⟩
end
end Far

namespace Far
open PySem PySem.Spec PyProof.Rows L2
section
variable {X : Cx}
/-- name = {k: v for ..} on one line, the name a local one -/
theorem ps_setDc {i : Nat} {y : Str} {py spos pos : Pos} {kx vx tg iter : Expr} {ifs : List Expr} {scope : Scope} {own : List (Str × Nat)} {wi : TI} {g : TG} {tt : TT} {tk tv : TE}
    (hc : X.calm = true) (hN : X.N.Nodup) (hy : X.N[i]? = some y) (hyl : X.env.scope.names.lookup y = some .local) (hsw : swapsWith (.DictComp kx vx [⟨tg, iter, ifs, 0⟩] scope pos) (some (.Name y py)) spos.line X.env = pure true)
    (hi : PI X tg iter wi) (ok : BlkOk X.N X.env.scope scope own)
    (hg : ∀ (s : Shared) (H : Hp) (C : Addr) (l : List (Str × Addr)) (fp : List Addr), PG (X.blk s H scope (compEnvC scope l C X.env) fp) tg g)
    (ht : ∀ (s : Shared) (H : Hp) (C : Addr) (l : List (Str × Addr)) (fp : List Addr), PTs (X.blk s H scope (compEnvC scope l C X.env) fp) ifs tt)
    (hk : ∀ (s : Shared) (H : Hp) (C : Addr) (l : List (Str × Addr)) (fp : List Addr), PE (X.blk s H scope (compEnvC scope l C X.env) fp) kx tk)
    (hv : ∀ (s : Shared) (H : Hp) (C : Addr) (l : List (Str × Addr)) (fp : List Addr), PE (X.blk s H scope (compEnvC scope l C X.env) fp) vx tv)
    (hs : ∀ x, foldedSetIterable iter X.env x = pure x := by intro _; rfl) : PS X (.Assign [.Name y py] (.DictComp kx vx [⟨tg, iter, ifs, 0⟩] scope pos) spos) (tAsg (tDc wi g tt tk tv (own.map (·.2))) (gName i)) := by
  refine ⟨fun pins s σ H D I h => ?_⟩
  replace h : tDc wi g tt tk tv (own.map (·.2)) σ H (fun v H1 => gName i v σ H1 D.nx) := h
  rw [exec_Assign_Name_used _ _ _ _ hsw]
  refine wpAny_bind (wpAny_standAt (wpAny_bind ?_))
  show wpAny _ X.A (do let _ ← comprehension (.DictComp kx vx [⟨tg, iter, ifs, 0⟩] scope pos) scope X.env (firstIterPos [⟨tg, iter, ifs, 0⟩] pos) newDict false (eval iter X.env) (some (assign (.Name y py) X.env))) _ _ s
  refine wpAny_bind (thn (dc_core (Qf := fun _ s1 => SP X pins D .next s1) hc hN I hi ok hg ht hk hv hs h fun L C s1 m H1 I1 q hn f => ?_) fun _ s1 z => wpAny_pure (wpAny_pure z))
  show wpAny _ _ (assign (.Name y py) X.env (.ref L)) _ _ _
  obtain ⟨f0, f1, f2, f3, f4, f5⟩ := f
  refine wpAny_assign_Name (store_ok2 (v := V.ref L) I1 hN hy (.inl hyl) rfl (fun s2 I2 ⟨a, sb, ha⟩ => ⟨m, hn.sameBut sb ?_, fun h3 sb3 => ?_⟩) (.inr hyl))
  · rcases ha with z | z
    · exact z ▸ f1
    · exact fun e => f4 y a z e.symm
  · exact ⟨_, H1, I2.turned (t' := s2.toks) (fun b o hb e => (sb3.2 b hb).trans e) f0 f1 f3 f4 f5, q⟩
theorem swD_true {kx vx : Expr} {gs : List Comprehension} {scope : Scope} {pos py : Pos} {y : Str} {l : Nat} {env : Env} (hk : env.scope.kind = .function) (hy : env.scope.names.lookup y = some .local) (hl : (py.line == pos.line) = true)
    (ha : (scope.names.any fun (n, k) => n == y && (k == .local || k == .cell)) = false) : swapsWith (.DictComp kx vx gs scope pos) (some (.Name y py)) l env = pure true := by
  have e1 : env.kindOf y = some .local := hy
  have e2 : env.blockKind = .function := by unfold Env.blockKind; rw [hk]; rfl
  unfold swapsWith
  simp only [e2, e1, ha, Expr.pos, hl]
  rfl
end
end Far

namespace Far
open PySem PySem.Spec PyProof.Rows L2
open C8 (pss_cut tCut)
open SX (S)
structure TxtW (mg : Str → Option Value) : Prop where
  tuple : mg "tuple" = none
/-! ### the ties of each place -/
def pairD (x : Nm × Int) : PyData := .tuple [.str (S x.1), .int x.2]
theorem dt_pairD {H : Hp} {v : V} {x : Nm × Int} (h : Dt H v (pairD x)) : ∃ t : Addr, v = .ref t ∧ H t = some (.tup [.str (S x.1), .int x.2]) := by
  obtain ⟨t, a, b, rfl, ht, h1, h2⟩ := dt_pair h fun l z => nomatch z
  cases h1
  cases h2
  exact ⟨t, rfl, ht⟩
/-- at D: for each place a list of its own, of the places tied to it with the ties' lengths -/
structure BesideAt (H : Hp) (D : Addr) (pl : List Nm) (ad : Nm → Addr) (nb : Nm → List (Nm × Int)) : Prop where
  dict : H D = some (.dK (dkm pl fun l => .ref (ad l)))
  each : ∀ l ∈ pl, ∃ vs, H (ad l) = some (.lst vs) ∧ DtAll H vs ((nb l).map pairD)
  inj : ∀ l ∈ pl, ∀ m ∈ pl, ad l = ad m → l = m
def nbAdd (nb : Nm → List (Nm × Int)) (a : Nm) (x : Nm × Int) : Nm → List (Nm × Int) := fun l => if l = a then nb l ++ [x] else nb l
theorem BesideAt.keep {H H' : Hp} {D : Addr} {pl : List Nm} {ad : Nm → Addr} {nb : Nm → List (Nm × Int)} (b : BesideAt H D pl ad nb) (s : Same H H') : BesideAt H' D pl ad nb :=
  ⟨s _ _ b.dict, fun l hl => let ⟨vs, h1, h2⟩ := b.each l hl; ⟨vs, s _ _ h1, DtAll.keep (TK.of s) h2⟩, b.inj⟩
theorem BesideAt.ne {H : Hp} {D : Addr} {pl : List Nm} {ad : Nm → Addr} {nb : Nm → List (Nm × Int)} (b : BesideAt H D pl ad nb) {l : Nm} (hl : l ∈ pl) : ad l ≠ D := by
  obtain ⟨vs, h, _⟩ := b.each l hl
  exact ne_of h b.dict (by intro z; cases z)
theorem BesideAt.add {H : Hp} {D : Addr} {pl : List Nm} {ad : Nm → Addr} {nb : Nm → List (Nm × Int)} (b : BesideAt H D pl ad nb) {a : Nm} (ha : a ∈ pl) {x : Nm × Int} {v : V} {vs : List V} (hv : Dt H v (pairD x)) (hvs : H (ad a) = some (.lst vs)) :
    BesideAt (upd H (ad a) (.lst (vs ++ [v]))) D pl ad (nbAdd nb a x) := by
  have tk : TK H (upd H (ad a) (.lst (vs ++ [v]))) := TK.mut hvs
  refine ⟨by rw [upd_ne (b.ne ha).symm]; exact b.dict, fun l hl => ?_, b.inj⟩
  by_cases e : l = a
  · subst e
    obtain ⟨ws, h1, h2⟩ := b.each l hl
    rw [hvs] at h1
    cases h1
    refine ⟨_, upd_same, ?_⟩
    unfold nbAdd
    rw [if_pos rfl, List.map_append]
    exact DtAll.app (DtAll.keep tk h2) (.cons (Dt.keep tk hv) .nil)
  · obtain ⟨ws, h1, h2⟩ := b.each l hl
    refine ⟨ws, by rw [upd_ne (fun z => e (b.inj l hl a ha z))]; exact h1, ?_⟩
    unfold nbAdd
    rw [if_neg e]
    exact DtAll.keep tk h2
/-- the ties of a place, as the program takes them down -/
def nbOf : List Tie → Nm → List (Nm × Int) := List.foldl (fun nb e => nbAdd (nbAdd nb e.1 (e.2.1, e.2.2)) e.2.1 (e.1, e.2.2)) (fun _ => [])
theorem nbOf_snoc (ts : List Tie) (e : Tie) : nbOf (ts ++ [e]) = nbAdd (nbAdd (nbOf ts) e.1 (e.2.1, e.2.2)) e.2.1 (e.1, e.2.2) := by
  unfold nbOf
  rw [List.foldl_append]
  rfl
theorem list_rec_snoc {α : Type} {P : List α → Prop} (h0 : P []) (h1 : ∀ l x, P l → P (l ++ [x])) : ∀ l, P l := by
  intro l
  have : ∀ r : List α, P r.reverse := by
    intro r
    induction r with
    | nil => exact h0
    | cons x r ih =>
      rw [List.reverse_cons]
      exact h1 _ _ ih
  have q := this l.reverse
  rwa [List.reverse_reverse] at q
theorem nbAdd_mem {nb : Nm → List (Nm × Int)} {a l : Nm} {x y : Nm × Int} : y ∈ nbAdd nb a x l ↔ y ∈ nb l ∨ (l = a ∧ y = x) := by
  unfold nbAdd
  by_cases e : l = a
  · rw [if_pos e, List.mem_append, List.mem_singleton]
    simp [e]
  · rw [if_neg e]
    simp [e]
theorem nbOf_adj (ts : List Tie) : ∀ (l x : Nm) (k : Int), (x, k) ∈ nbOf ts l ↔ Adj ts l x k := by
  induction ts using list_rec_snoc with
  | h0 =>
    intro l x k
    constructor
    · intro h
      cases h
    · intro h
      rcases h with h | h <;> cases h
  | h1 ts e ih =>
    intro l x k
    rw [nbOf_snoc, nbAdd_mem, nbAdd_mem, ih]
    obtain ⟨a, b, m⟩ := e
    constructor
    · rintro ((h | ⟨h1, h2⟩) | ⟨h1, h2⟩)
      · exact h.elim (fun z => .inl (List.mem_append_left _ z)) fun z => .inr (List.mem_append_left _ z)
      · cases h2
        exact .inl (by rw [h1]; simp)
      · cases h2
        exact .inr (by rw [h1]; simp)
    · rintro (h | h) <;> rcases List.mem_append.mp h with z | z
      · exact .inl (.inl (.inl z))
      · have z := List.mem_singleton.mp z
        cases z
        exact .inl (.inr ⟨rfl, rfl⟩)
      · exact .inl (.inl (.inr z))
      · have z := List.mem_singleton.mp z
        cases z
        exact .inr ⟨rfl, rfl⟩
theorem nbAdd_len {nb : Nm → List (Nm × Int)} {a l : Nm} {x : Nm × Int} : (nbAdd nb a x l).length ≤ (nb l).length + 1 := by
  unfold nbAdd
  split
  · rw [List.length_append]
    exact Nat.le_refl _
  · omega
theorem nbOf_len (ts : List Tie) : ∀ l, (nbOf ts l).length ≤ 2 * ts.length := by
  induction ts using list_rec_snoc with
  | h0 => intro l; exact Nat.zero_le _
  | h1 ts e ih =>
    intro l
    rw [nbOf_snoc, List.length_append, List.length_singleton]
    have h1 := nbAdd_len (nb := nbAdd (nbOf ts) e.1 (e.2.1, e.2.2)) (a := e.2.1) (l := l) (x := (e.1, e.2.2))
    have h2 := nbAdd_len (nb := nbOf ts) (a := e.1) (l := l) (x := (e.2.1, e.2.2))
    have h3 := ih l
    omega
/-- another object changes -/
theorem BesideAt.off {H : Hp} {D g : Addr} {o : HO} {pl : List Nm} {ad : Nm → Addr} {nb : Nm → List (Nm × Int)} (b : BesideAt H D pl ad nb) (tk : TK H (upd H g o)) (n : D ≠ g) (na : ∀ l ∈ pl, ad l ≠ g) : BesideAt (upd H g o) D pl ad nb :=
  ⟨by rw [upd_ne n]; exact b.dict, fun l hl => let ⟨vs, h1, h2⟩ := b.each l hl; ⟨vs, by rw [upd_ne (na l hl)]; exact h1, DtAll.keep tk h2⟩, b.inj⟩
abbrev s_ties_of_each : Stmt := topS 10
abbrev N_ties_of_each : List Str := ["tree", "places", "ties", "beside", "one", "other", "length", "place"]
theorem sc_ties_of_each : FnScope N_ties_of_each ["tree"] (defScope s_ties_of_each) := ⟨rfl, rfl, rfl, by decide +kernel, rfl, by decide +kernel, by decide +kernel⟩
section
variable {P : Program} {w : World} {K : PySem.W.Frag} {mg : Str → Option Value} {base : Heap}
def spTies : Sp := fun vs H Q _ => ∃ (v : V) (pl : List Nm) (ts : List Tie), vs = [v] ∧ Dt H v (treeD pl ts) ∧ Fine pl ts ∧ ∀ (H' : Hp) (D : Addr) (ad : Nm → Addr), Same H H' → H D = none → BesideAt H' D pl ad (nbOf ts) → (∀ l ∈ pl, H (ad l) = none) → Q (.ref D) H'
theorem ok_ties_of_each {f : Addr} {fd : FuncData} (F : Fun K "_ties_of_each" "_ties_of_each" s_ties_of_each f fd) : FnOk P w K mg base CX0 1 f fd ["tree"] spTies := by
  refine F.ok sc_ties_of_each (fun vs H Q E h => ?_) (fun cdv A outer s H vs Q E hr h => ?_)
  · obtain ⟨v, pl, ts, rfl, _⟩ := h
    rfl
  · obtain ⟨v, pl, ts, rfl, hd, fine, q⟩ := h
    obtain ⟨t, a, b, vs, rfl, ht, ha, hb, hA⟩ := dt_tree hd
    refine ⟨_, (pss_cons (ps_asg (pv 0) (pg_tup rfl (pgs_cons (pg_name (i := 1) sc_ties_of_each.nd rfl (.inl rfl)) (pgs_cons (pg_name (i := 2) sc_ties_of_each.nd rfl (.inl rfl)) pgs_nil))))
      (pss_cons (ps_setDc (i := 3) (own := [("place", 7)]) (g := gName 7) (tt := tYes) rfl sc_ties_of_each.nd rfl rfl (swD_true rfl rfl rfl (by decide +kernel)) (pi_tup (pv 1)) (blkOk_by (N := N_ties_of_each) (sc := defScope s_ties_of_each) (by decide +kernel)) (fun _ _ _ _ _ => pg_name (i := 7) sc_ties_of_each.nd rfl (Or.inl rfl)) (fun _ _ _ _ _ => pts_nil) (fun _ _ _ _ _ => (pv 7)) (fun _ _ _ _ _ => (pe_lst pa_nil)))
      (pss_cut (ps_for PassesOwn.never rfl (pi_tup (pv 2)) (pg_tup rfl (pgs_cons (pg_name (i := 4) sc_ties_of_each.nd rfl (.inl rfl)) (pgs_cons (pg_name (i := 5) sc_ties_of_each.nd rfl (.inl rfl)) (pgs_cons (pg_name (i := 6) sc_ties_of_each.nd rfl (.inl rfl)) pgs_nil))))
        (pss_cons (ps_expr (pe_bm PySem.F.plainAttrs_list PySem.F.slot_list_append PySem.F.type_list_append mt_append (pe_dget (hu_of hr) (pv 3) (pv 4) (fun _ _ => rfl)) (pa_cons (pe_tup (pa_cons (pv 5) (pa_cons (pv 6) pa_nil))) pa_nil)))
        (pss_one (ps_expr (pe_bm PySem.F.plainAttrs_list PySem.F.slot_list_append PySem.F.type_list_append mt_append (pe_dget (hu_of hr) (pv 3) (pv 5) (fun _ _ => rfl)) (pa_cons (pe_tup (pa_cons (pv 4) (pa_cons (pv 6) pa_nil))) pa_nil))))))
      (pss_one (ps_ret (pv 3)))))), ?_⟩
    have nd := fine.tree.nodup
    have pl1 := fine.len
    have len := fine.tree.len
    have vl : vs.length = ts.length := by
      have := DtAll.len hA
      rwa [List.length_map] at this
    refine ⟨_, rfl, t, _, rfl, SqT.of ht, rfl, _, _, rfl, _, _, rfl, rfl, ?_⟩
    refine ⟨_, rfl, a, rfl, ⟨_, ha.sq⟩, fun D nD => ?_⟩
    have Da : D ≠ a := (ha.ne nD).symm
    refine dc_tup (K := K) (a := a) (xs := (pl.map S).map V.str) (fun i H' => ∃ ad : Nm → Addr, Same H H' ∧ BesideAt H' D (pl.take i) ad (fun _ => []) ∧ ∀ l ∈ pl.take i, H (ad l) = none) ⟨fun _ => 0, same_new (Same.refl H) nD, ⟨upd_same, fun l hl => (by cases hl), fun l hl => (by cases hl)⟩, fun l hl => (by cases hl)⟩ (fun i H' _ hP => ?_) (fun i x H' hi hP => ?_) (fun H' hP => ?_)
    · obtain ⟨_, sm, _⟩ := hP
      exact (ha.same sm).sq
    · obtain ⟨ad, sm, bs, fr⟩ := hP
      rw [List.getElem?_map, List.getElem?_map] at hi
      cases el : pl[i]? with
      | none =>
        rw [el] at hi
        cases hi
      | some l =>
        rw [el] at hi
        have ex : x = .str (S l) := (Option.some.inj hi).symm
        subst ex
        have ln : l ∉ pl.take i := fun hm => by
          obtain ⟨j, hj, ej⟩ := List.mem_take_iff_getElem.mp hm
          obtain ⟨hi', ei⟩ := List.getElem?_eq_some_iff.mp el
          have := (List.getElem_inj nd).mp (ej.trans ei.symm)
          omega
        have et : pl.take (i + 1) = pl.take i ++ [l] := by
          rw [List.take_add_one, el]
          rfl
        refine ⟨rfl, _, rfl, Nat.zero_le _, fun g ng => ?_⟩
        have gD : g ≠ D := (ne_of_none bs.dict ng).symm
        have hD : (upd H' g (.lst [])) D = some (.dK (dkm (pl.take i) fun l => .ref (ad l))) := by
          rw [upd_ne gD.symm]
          exact bs.dict
        refine ⟨_, Sum.inr (S l), rfl, hD, by unfold dkm; rw [List.length_map, List.length_take]; exact sz_lt (by omega), ?_⟩
        rw [dkm_new ln, et]
        have adg : ∀ m ∈ pl.take i, ad m ≠ g := fun m hm => by
          obtain ⟨ws, h1, _⟩ := bs.each m hm
          exact ne_of_none h1 ng
        refine ⟨fun z => if z = l then g else ad z, same_put (same_new sm ng) nD, ⟨?_, fun m hm => ?_, fun m hm m' hm' => ?_⟩, fun m hm => ?_⟩
        · rw [upd_same]
          refine congrArg (fun z => some (HO.dK z)) (dkm_cong fun z _ => ?_)
          by_cases e : z = l <;> simp [e]
        · rcases List.mem_append.mp hm with z | z
          · have ml : m ≠ l := fun e => ln (e ▸ z)
            obtain ⟨ws, h1, h2⟩ := bs.each m z
            refine ⟨ws, ?_, DtAll.keep ((TK.new ng).trans (tkD hD)) h2⟩
            rw [if_neg ml, upd_ne (bs.ne z), upd_ne (adg m z)]
            exact h1
          · rw [List.mem_singleton.mp z, if_pos rfl]
            exact ⟨[], by rw [upd_ne gD]; exact upd_same, .nil⟩
        · rcases List.mem_append.mp hm with z | z <;> rcases List.mem_append.mp hm' with y | y
          · have ml : m ≠ l := fun e => ln (e ▸ z)
            have ml' : m' ≠ l := fun e => ln (e ▸ y)
            rw [if_neg ml, if_neg ml']
            exact bs.inj m z m' y
          · have ml : m ≠ l := fun e => ln (e ▸ z)
            rw [if_neg ml, List.mem_singleton.mp y, if_pos rfl]
            exact fun e => absurd e (adg m z)
          · have ml' : m' ≠ l := fun e => ln (e ▸ y)
            rw [if_neg ml', List.mem_singleton.mp z, if_pos rfl]
            exact fun e => absurd e.symm (adg m' y)
          · rw [List.mem_singleton.mp z, List.mem_singleton.mp y]
            exact fun _ => rfl
        · rcases List.mem_append.mp hm with z | z
          · have ml : m ≠ l := fun e => ln (e ▸ z)
            show H (if m = l then g else ad m) = none
            rw [if_neg ml]
            exact fr m z
          · rw [List.mem_singleton.mp z]
            show H (if l = l then g else ad l) = none
            rw [if_pos rfl]
            exact sm.free ng
    · obtain ⟨ad, sm, bs, fr⟩ := hP
      rw [List.length_map, List.length_map, List.take_length] at bs fr
      refine ⟨fun σ2 H2 => ∃ x4 x5 x6, σ2 = [some (.ref t), some (.ref a), some (.ref b), some (.ref D), x4, x5, x6, none] ∧ Same H H2 ∧ BesideAt H2 D pl ad (nbOf ts), ?_, fun σ2 H2 hM => ?_⟩
      · refine ⟨_, rfl, b, rfl, ⟨_, SqT.of (sm _ _ hb)⟩, for_tup (K := K) (a := b) (xs := vs) (fun i σ2 H2 => ∃ x4 x5 x6, σ2 = [some (.ref t), some (.ref a), some (.ref b), some (.ref D), x4, x5, x6, none] ∧ Same H H2 ∧ BesideAt H2 D pl ad (nbOf (ts.take i)))
          ⟨none, none, none, rfl, sm, bs⟩ (fun i σ2 H2 _ hP => ?_) (fun i x σ2 H2 hi hP => ?_) (fun σ2 H2 hP => ?_)⟩
        · obtain ⟨_, _, _, _, sm, _⟩ := hP
          exact SqT.of (sm _ _ hb)
        · obtain ⟨x4, x5, x6, rfl, sm2, bs2⟩ := hP
          obtain ⟨d, hd, hx⟩ := DtAll.get hA hi
          rw [List.getElem?_map] at hd
          cases ee : ts[i]? with
          | none =>
            rw [ee] at hd
            cases hd
          | some e =>
            rw [ee] at hd
            have ed : d = tieD e := (Option.some.inj hd).symm
            subst ed
            obtain ⟨u, rfl, hu⟩ := dt_tie hx
            have em : e ∈ ts := List.mem_of_getElem? ee
            obtain ⟨i1, i2, k1, k2⟩ := fine.tree.ties e em
            have et : ts.take (i + 1) = ts.take i ++ [e] := by
              rw [List.take_add_one, ee]
              rfl
            have tl : (ts.take i).length ≤ 1000 := by
              rw [List.length_take]
              omega
            refine ⟨u, _, rfl, SqT.of (sm2 _ _ hu), rfl, _, _, rfl, _, _, rfl, _, _, rfl, rfl, ?_⟩
            -- beside[one].append
            obtain ⟨w1, g1, g2⟩ := bs2.each e.1 i1
            have l1 : w1.length = (nbOf (ts.take i) e.1).length := by
              have := DtAll.len g2
              rwa [List.length_map] at this
            have l1' := nbOf_len (ts.take i) e.1
            refine ⟨_, rfl, _, rfl, D, .ref (ad e.1), rfl, by rw [← dkm_get (f := fun l => V.ref (ad l)) i1]; exact DGet.k (k := Sum.inr (S e.1)) bs2.dict, .inl ⟨rfl, _, SqL.of g1⟩, _, rfl, _, rfl, (by show 2 ≤ sizeLine; decide), fun p np => ?_⟩
            have bs3 := bs2.keep (same_new (o := .tup [.str (S e.2.1), .int e.2.2]) (Same.refl H2) np)
            have g1' : (upd H2 p (.tup [.str (S e.2.1), .int e.2.2])) (ad e.1) = some (.lst w1) := by
              rw [upd_ne (ne_of_none g1 np)]
              exact g1
            refine ⟨_, _, _, rfl, rfl, g1', sz_lt (by omega), ?_⟩
            have bs4 := bs3.add i1 (x := (e.2.1, e.2.2)) (v := .ref p) (.tup upd_same (.cons (.str _) (.cons (.int _) .nil))) g1'
            have sm4 : Same H (upd (upd H2 p (.tup [.str (S e.2.1), .int e.2.2])) (ad e.1) (.lst (w1 ++ [.ref p]))) := same_put (same_new sm2 np) (fr _ i1)
            generalize upd (upd H2 p (.tup [.str (S e.2.1), .int e.2.2])) (ad e.1) (.lst (w1 ++ [.ref p])) = H4 at bs4 sm4
            -- beside[other].append
            obtain ⟨w2, g3, g4⟩ := bs4.each e.2.1 i2
            have l2 : w2.length = (nbAdd (nbOf (ts.take i)) e.1 (e.2.1, e.2.2) e.2.1).length := by
              have := DtAll.len g4
              rwa [List.length_map] at this
            have l2' := nbOf_len (ts.take i) e.2.1
            have l2'' := nbAdd_len (nb := nbOf (ts.take i)) (a := e.1) (l := e.2.1) (x := (e.2.1, e.2.2))
            refine ⟨_, rfl, _, rfl, D, .ref (ad e.2.1), rfl, by rw [← dkm_get (f := fun l => V.ref (ad l)) i2]; exact DGet.k (k := Sum.inr (S e.2.1)) bs4.dict, .inl ⟨rfl, _, SqL.of g3⟩, _, rfl, _, rfl, (by show 2 ≤ sizeLine; decide), fun p' np' => ?_⟩
            have bs5 := bs4.keep (same_new (o := .tup [.str (S e.1), .int e.2.2]) (Same.refl H4) np')
            have g3' : (upd H4 p' (.tup [.str (S e.1), .int e.2.2])) (ad e.2.1) = some (.lst w2) := by
              rw [upd_ne (ne_of_none g3 np')]
              exact g3
            refine ⟨_, _, _, rfl, rfl, g3', sz_lt (by omega), ?_⟩
            have bs6 := bs5.add i2 (x := (e.1, e.2.2)) (v := .ref p') (.tup upd_same (.cons (.str _) (.cons (.int _) .nil))) g3'
            refine ⟨_, _, _, rfl, same_put (same_new sm4 np') (fr _ i2), ?_⟩
            rw [et, nbOf_snoc]
            exact bs6
        · obtain ⟨x4, x5, x6, rfl, sm2, bs2⟩ := hP
          rw [vl, List.take_length] at bs2
          exact ⟨_, _, _, rfl, sm2, bs2⟩
      · obtain ⟨x4, x5, x6, rfl, sm2, bs2⟩ := hM
        exact ⟨_, rfl, q H2 D ad sm2 nD bs2 fr⟩
end
end Far

namespace Far
open PySem PySem.Spec PyProof.Rows L2
open C8 (pss_cut tCut)
open SX (S)
/-! ### a walk through a tree: fs come to, st to be gone on from, ex being gone on from -/
abbrev s_walk_from : Stmt := topS 9
abbrev N_walk_from : List Str := ["tree", "start", "beside", "back", "lengths", "ahead", "here", "place", "length"]
theorem sc_walk_from : FnScope N_walk_from ["tree", "start"] (defScope s_walk_from) := ⟨rfl, rfl, rfl, by decide +kernel, rfl, by decide +kernel, by decide +kernel⟩
section
variable {P : Program} {w : World} {K : PySem.W.Frag} {mg : Str → Option Value} {base : Heap}
/-- what a walk from u tells, at q -/
structure Walked (H : Hp) (q bk ln : Addr) (pl : List Nm) (ts : List Tie) (u : Nm) (fs : List Nm) (prev : Nm → Nm) : Prop where
  pair : H q = some (.tup [.ref bk, .ref ln])
  back : H bk = some (.dK (dkm fs fun x => .str (S (prev x))))
  lens : H ln = some (.dK (dkm fs fun x => .int (dist ts u x)))
  all : ∀ x, x ∈ fs ↔ x ∈ pl
  pr : ∀ x ∈ fs, x ≠ u → prev x ∈ fs ∧ path ts u x = path ts u (prev x) ++ [x]
def spWalk : Sp := fun vs H Q _ => ∃ (v : V) (pl : List Nm) (ts : List Tie) (u : Nm), vs = [v, .str (S u)] ∧ Dt H v (treeD pl ts) ∧ Fine pl ts ∧ u ∈ pl ∧ ∀ (H' : Hp) (q bk ln : Addr) (fs : List Nm) (prev : Nm → Nm), Same H H' → Walked H' q bk ln pl ts u fs prev → Q (.ref q) H'
theorem ok_walk_from {f : Addr} {fd : FuncData} (F : Fun K "walk_from" "walk_from" s_walk_from f fd) (C_ties_of_each : Cal P w K mg base 1 "_ties_of_each" spTies) : FnOk P w K mg base CX0 2 f fd ["tree", "start"] spWalk := by
  refine F.ok sc_walk_from (fun vs H Q E h => ?_) (fun cdv A outer s H vs Q E hr h => ?_)
  · obtain ⟨v, pl, ts, u, rfl, _⟩ := h
    rfl
  · obtain ⟨v, pl, ts, u, rfl, hd, fine, hu, q⟩ := h
    refine ⟨_, (pss_cons (ps_set (i := 2) sc_walk_from.nd rfl (.inl rfl) (pe_c C_ties_of_each hr (by decide) rfl (pa_cons (pv 0) pa_nil)))
      (pss_cons (ps_set (i := 3) sc_walk_from.nd rfl (.inl rfl) (pe_disp (pps_cons (pv 1) (pv 1) pps_nil) (by rfl) (by rfl) (fun z => by cases z) (by decide)))
      (pss_cons (ps_set (i := 4) sc_walk_from.nd rfl (.inl rfl) (pe_disp (pps_cons (pv 1) pe_int pps_nil) (by rfl) (by rfl) (fun z => by cases z) (by decide)))
      (pss_cons (ps_set (i := 5) sc_walk_from.nd rfl (.inl rfl) (pe_lst (pa_cons (pv 1) pa_nil)))
      (pss_cut (ps_while PassesOwn.never (pt_truth (pv 5) (by intro _; rfl))
        (pss_cons (ps_set (i := 6) sc_walk_from.nd rfl (.inl rfl) (pe_bm0 PySem.F.plainAttrs_list PySem.F.slot_list_pop PySem.F.type_list_pop mt_pop (pv 5)))
        (pss_one (ps_for PassesOwn.never rfl (pi_list (pe_dget (hu_of hr) (pv 2) (pv 6) (fun _ _ => rfl))) (pg_tup rfl (pgs_cons (pg_name (i := 7) sc_walk_from.nd rfl (.inl rfl)) (pgs_cons (pg_name (i := 8) sc_walk_from.nd rfl (.inl rfl)) pgs_nil)))
          (pss_one (ps_if (pt_cmp (pc_dnotin (hu_of hr) (pv 7) (pv 3)))
            (pss_cons (ps_dput (hu_of hr) (pv 3) (pv 7) (pv 6) rfl)
            (pss_cons (ps_dput (hu_of hr) (pv 4) (pv 7) (pe_op op_add (pe_dget (hu_of hr) (pv 4) (pv 6) (fun _ _ => rfl)) (pv 8)) rfl)
            (pss_one (ps_expr (pe_bm PySem.F.plainAttrs_list PySem.F.slot_list_append PySem.F.type_list_append mt_append (pv 5) (pa_cons (pv 7) pa_nil))))))
            pss_nil))))))
      (pss_one (ps_ret (pe_tup (pa_cons (pv 3) (pa_cons (pv 4) pa_nil)))))))))), ?_⟩
    have tr := fine.tree
    have pl1 := fine.len
    have tl1 := tr.len
    refine ⟨_, rfl, v, pl, ts, rfl, hd, fine, fun H1 D ad S1 nD bs fr => ?_⟩
    -- back, lengths, ahead
    refine fun bk nbk => ⟨_, rfl, _, rfl, upd_same, [(Sum.inr (S u), .str (S u))], rfl, (by decide : 1 ≤ 15), ?_⟩
    rw [upd_upd]
    have S2 := same_new (o := .dK (mergeK [] [((Sum.inr (S u) : Key), V.str (S u))])) S1 nbk
    have bs2 := bs.keep (same_new (o := .dK (mergeK [] [((Sum.inr (S u) : Key), V.str (S u))])) (Same.refl H1) nbk)
    refine fun ln nln => ⟨_, rfl, upd_same, [(Sum.inr (S u), .int 0)], rfl, (by decide : 1 ≤ 15), ?_⟩
    rw [upd_upd]
    have S3 := same_new (o := .dK (mergeK [] [((Sum.inr (S u) : Key), V.int 0)])) S2 nln
    have bs3 := bs2.keep (same_new (o := .dK (mergeK [] [((Sum.inr (S u) : Key), V.int 0)])) (Same.refl _) nln)
    refine ⟨_, rfl, (by show 1 ≤ sizeLine; decide), fun ah nah => ?_⟩
    have S4 := same_new (o := .lst [.str (S u)]) S3 nah
    have bs4 := bs3.keep (same_new (o := .lst [.str (S u)]) (Same.refl _) nah)
    have bkln : bk ≠ ln := ne_of_none upd_same nln
    have bkah : bk ≠ ah := ne_of_none (by rw [upd_ne bkln]; exact upd_same) nah
    have lnah : ln ≠ ah := ne_of_none upd_same nah
    have Dbk : D ≠ bk := ne_of_none bs.dict nbk
    have Dln : D ≠ ln := ne_of_none bs2.dict nln
    have Dah : D ≠ ah := ne_of_none bs3.dict nah
    have bk0 : H bk = none := S1.free nbk
    have ln0 : H ln = none := S2.free nln
    have ah0 : H ah = none := S3.free nah
    have adbk : ∀ l ∈ pl, ad l ≠ bk := fun l hl => let ⟨_, h1, _⟩ := bs.each l hl; ne_of_none h1 nbk
    have adln : ∀ l ∈ pl, ad l ≠ ln := fun l hl => let ⟨_, h1, _⟩ := bs2.each l hl; ne_of_none h1 nln
    have adah : ∀ l ∈ pl, ad l ≠ ah := fun l hl => let ⟨_, h1, _⟩ := bs3.each l hl; ne_of_none h1 nah
    have hbk : (upd (upd (upd H1 bk (.dK (mergeK [] [((Sum.inr (S u) : Key), V.str (S u))]))) ln (.dK (mergeK [] [((Sum.inr (S u) : Key), V.int 0)]))) ah (.lst [.str (S u)])) bk = some (.dK (dkm [u] fun x => .str (S u))) := by
      rw [upd_ne bkah, upd_ne bkln]
      exact upd_same
    have hln : (upd (upd (upd H1 bk (.dK (mergeK [] [((Sum.inr (S u) : Key), V.str (S u))]))) ln (.dK (mergeK [] [((Sum.inr (S u) : Key), V.int 0)]))) ah (.lst [.str (S u)])) ln = some (.dK (dkm [u] fun x => .int (dist ts u x))) := by
      rw [upd_ne lnah]
      refine upd_same.trans ?_
      unfold dkm
      rw [List.map_singleton]
      show some (HO.dK [((Sum.inr (S u) : Key), V.int 0)]) = some (HO.dK [((Sum.inr (S u) : Key), V.int (dist ts u u))])
      rw [(tr.dist_self u).1]
    have hah : (upd (upd (upd H1 bk (.dK (mergeK [] [((Sum.inr (S u) : Key), V.str (S u))]))) ln (.dK (mergeK [] [((Sum.inr (S u) : Key), V.int 0)]))) ah (.lst [.str (S u)])) ah = some (.lst (([u].map S).map V.str)) := upd_same
    generalize upd (upd (upd H1 bk (.dK (mergeK [] [((Sum.inr (S u) : Key), V.str (S u))]))) ln (.dK (mergeK [] [((Sum.inr (S u) : Key), V.int 0)]))) ah (.lst [.str (S u)]) = H4 at S4 bs4 hbk hln hah
    refine ⟨fun σ' H' => ∃ (fs : List Nm) (prev : Nm → Nm) (x6 x7 x8 : Option V), σ' = [some v, some (.str (S u)), some (.ref D), some (.ref bk), some (.ref ln), some (.ref ah), x6, x7, x8] ∧ Same H H' ∧ H' bk = some (.dK (dkm fs fun x => .str (S (prev x)))) ∧ H' ln = some (.dK (dkm fs fun x => .int (dist ts u x))) ∧ Wk pl ts u fs [] prev (fun _ => False), ?_, fun σ' H' hM => ?_⟩
    · refine ⟨fun m σ' H' => ∃ (fs st : List Nm) (prev : Nm → Nm) (x6 x7 x8 : Option V), σ' = [some v, some (.str (S u)), some (.ref D), some (.ref bk), some (.ref ln), some (.ref ah), x6, x7, x8] ∧ Same H H' ∧ BesideAt H' D pl ad (nbOf ts) ∧ H' bk = some (.dK (dkm fs fun x => .str (S (prev x)))) ∧ H' ln = some (.dK (dkm fs fun x => .int (dist ts u x))) ∧ H' ah = some (.lst ((st.map S).map V.str)) ∧ Wk pl ts u fs st prev (fun _ => False) ∧ st.length ≤ fs.length ∧ 2 * fs.length + m = 2 * pl.length + st.length,
        ⟨2 * pl.length - 1, [u], [u], fun _ => u, none, none, none, rfl, S4, bs4, hbk, hln, hah, Wk.start tr hu, Nat.le_refl _, by have := List.length_pos_of_mem hu; simp; omega⟩, ?_⟩
      rintro m σ2 H2 ⟨fs, st, prev, x6, x7, x8, rfl, SM, bs5, hbk5, hln5, hah5, wk, sl, em⟩
      refine ⟨_, rfl, _, .inl ⟨_, SqL.of hah5, rfl⟩, ?_⟩
      rcases List.eq_nil_or_concat st with rfl | ⟨st', h, e⟩
      · exact ⟨fs, prev, x6, x7, x8, rfl, SM, hbk5, hln5, wk⟩
      · rw [List.concat_eq_append] at e
        subst e
        have ne : ((st' ++ [h]).map S).map V.str = (st'.map S).map V.str ++ [.str (S h)] := by
          rw [List.map_append, List.map_append]
          rfl
        rw [ne] at hah5 ⊢
        have nb : (!((st'.map S).map V.str ++ [V.str (S h)]).isEmpty) = true := by simp
        rw [nb]
        refine iteT ?_
        obtain ⟨hh, wk1⟩ := wk.pop
        have hpl := wk1.sub h hh
        have fl := nodup_sub_len fs pl wk.nd wk.sub
        rw [List.length_append, List.length_singleton] at em sl
        obtain ⟨ws, hw1, hw2⟩ := bs5.each h hpl
        have wl : ws.length = (nbOf ts h).length := by
          have := DtAll.len hw2
          rwa [List.length_map] at this
        refine ⟨fun σ' H' => ∃ (fs' st'' : List Nm) (prev' : Nm → Nm) (x6 x7 x8 : Option V), σ' = [some v, some (.str (S u)), some (.ref D), some (.ref bk), some (.ref ln), some (.ref ah), x6, x7, x8] ∧ Same H H' ∧ BesideAt H' D pl ad (nbOf ts) ∧ H' bk = some (.dK (dkm fs' fun x => .str (S (prev' x)))) ∧ H' ln = some (.dK (dkm fs' fun x => .int (dist ts u x))) ∧ H' ah = some (.lst ((st''.map S).map V.str)) ∧ Wk pl ts u fs' st'' prev' (fun _ => False) ∧ fs.length ≤ fs'.length ∧ fs'.length + st'.length = fs.length + st''.length, ?_, ?_⟩
        · rintro σ' H' ⟨fs', st'', prev', y6, y7, y8, e1, e2, e3, e4, e5, e6, e7, e8, e9⟩
          have fl' := nodup_sub_len fs' pl e7.nd e7.sub
          exact ⟨2 * pl.length + st''.length - 2 * fs'.length, by omega, fs', st'', prev', y6, y7, y8, e1, e2, e3, e4, e5, e6, e7, by omega, by omega⟩
        · refine ⟨_, rfl, .inl ⟨rfl, _, SqL.of hah5⟩, ah, _, .str (S h), rfl, rfl, hah5, by simp, ?_⟩
          rw [List.dropLast_concat]
          have hbk6 : (upd H2 ah (.lst ((st'.map S).map V.str))) bk = some (.dK (dkm fs fun x => .str (S (prev x)))) := by rw [upd_ne bkah]; exact hbk5
          have hln6 : (upd H2 ah (.lst ((st'.map S).map V.str))) ln = some (.dK (dkm fs fun x => .int (dist ts u x))) := by rw [upd_ne lnah]; exact hln5
          have hw6 : (upd H2 ah (.lst ((st'.map S).map V.str))) (ad h) = some (.lst ws) := by rw [upd_ne (adah h hpl)]; exact hw1
          have SM6 : Same H (upd H2 ah (.lst ((st'.map S).map V.str))) := same_put SM ah0
          have bs6 : BesideAt (upd H2 ah (.lst ((st'.map S).map V.str))) D pl ad (nbOf ts) := bs5.off (TK.mut hah5) Dah adah
          have hah6 : (upd H2 ah (.lst ((st'.map S).map V.str))) ah = some (.lst ((st'.map S).map V.str)) := upd_same
          generalize upd H2 ah (.lst ((st'.map S).map V.str)) = H6 at hbk6 hln6 hw6 SM6 bs6 hah6
          refine ⟨_, rfl, _, rfl, D, .ref (ad h), rfl, by rw [← dkm_get (f := fun l => V.ref (ad l)) hpl]; exact DGet.k (k := Sum.inr (S h)) bs6.dict, ad h, rfl, ⟨_, SqL.of hw6⟩, for_list (K := K) (a := ad h) (xs := ws) (fun i σ' H' => ∃ (fs' st'' : List Nm) (prev' : Nm → Nm) (x7 x8 : Option V), σ' = [some v, some (.str (S u)), some (.ref D), some (.ref bk), some (.ref ln), some (.ref ah), some (.str (S h)), x7, x8] ∧ Same H H' ∧ BesideAt H' D pl ad (nbOf ts) ∧ H' (ad h) = some (.lst ws) ∧ H' bk = some (.dK (dkm fs' fun x => .str (S (prev' x)))) ∧ H' ln = some (.dK (dkm fs' fun x => .int (dist ts u x))) ∧ H' ah = some (.lst ((st''.map S).map V.str)) ∧ Wk pl ts u fs' st'' prev' (fun x => x = h) ∧ fs.length ≤ fs'.length ∧ fs'.length + st'.length = fs.length + st''.length ∧ h ∈ fs' ∧ ∀ p ∈ (nbOf ts h).take i, p.1 ∈ fs')
            ⟨fs, st', prev, x7, x8, rfl, SM6, bs6, hw6, hbk6, hln6, hah6, wk1, Nat.le_refl _, rfl, hh, fun p hp => (by cases hp)⟩ (fun i σ' H' _ hP => ?_) (fun i x σ' H' hi hP => ?_) (fun σ' H' hP => ?_)⟩
          · obtain ⟨_, _, _, _, _, _, _, _, hw, _⟩ := hP
            exact SqL.of hw
          · obtain ⟨fs', st'', prev', y7, y8, rfl, SM7, bs7, hw7, hbk7, hln7, hah7, wk7, le7, em7, hh7, nb7⟩ := hP
            obtain ⟨ws', hw', hA7⟩ := bs7.each h hpl
            rw [hw7] at hw'
            cases hw'
            obtain ⟨d, hd', hx⟩ := DtAll.get hA7 hi
            rw [List.getElem?_map] at hd'
            cases ee : (nbOf ts h)[i]? with
            | none =>
              rw [ee] at hd'
              cases hd'
            | some yk =>
              obtain ⟨y, k⟩ := yk
              rw [ee] at hd'
              have ed : d = pairD (y, k) := (Option.some.inj hd').symm
              subst ed
              obtain ⟨g, rfl, hg⟩ := dt_pairD hx
              have adj : Adj ts h y k := (nbOf_adj ts h y k).mp (List.mem_of_getElem? ee)
              have et : (nbOf ts h).take (i + 1) = (nbOf ts h).take i ++ [(y, k)] := by
                rw [List.take_add_one, ee]
                rfl
              have fl' := nodup_sub_len fs' pl wk7.nd wk7.sub
              have szf : ∀ f : Nm → V, (dkm fs' f).length < sizeLine := fun f => by
                unfold dkm
                rw [List.length_map]
                exact sz_lt (by omega)
              refine ⟨g, _, rfl, SqT.of hg, rfl, _, _, rfl, _, _, rfl, rfl, ?_⟩
              refine ⟨_, rfl, _, rfl, bk, _, rfl, DGet.k (k := Sum.inr (S y)) hbk7, _, rfl, ?_⟩
              rw [dkm_some]
              by_cases hy : y ∈ fs'
              · rw [decide_eq_true hy]
                refine iteF ⟨fs', st'', prev', _, _, rfl, SM7, bs7, hw7, hbk7, hln7, hah7, wk7, le7, em7, hh7, fun p hp => ?_⟩
                rw [et] at hp
                rcases List.mem_append.mp hp with z | z
                · exact nb7 p z
                · rw [List.mem_singleton.mp z]
                  exact hy
              · rw [decide_eq_false hy]
                refine iteT ?_
                obtain ⟨e1, wk8⟩ := wk7.push tr hh7 adj hy
                -- back[place] = here
                refine ⟨_, rfl, _, rfl, _, rfl, bk, _, rfl, DPut.k (k := Sum.inr (S y)) hbk7 (szf _), ?_⟩
                rw [dkm_new hy]
                have SM8 := same_put (o := .dK (dkm (fs' ++ [y]) fun z => if z = y then V.str (S h) else .str (S (prev' z)))) SM7 bk0
                have bs8 := bs7.off (o := .dK (dkm (fs' ++ [y]) fun z => if z = y then V.str (S h) else .str (S (prev' z)))) (tkD hbk7) Dbk adbk
                have hln8 : (upd H' bk (.dK (dkm (fs' ++ [y]) fun z => if z = y then V.str (S h) else .str (S (prev' z))))) ln = some (.dK (dkm fs' fun x => .int (dist ts u x))) := by rw [upd_ne bkln.symm]; exact hln7
                have hah8 : (upd H' bk (.dK (dkm (fs' ++ [y]) fun z => if z = y then V.str (S h) else .str (S (prev' z))))) ah = some (.lst ((st''.map S).map V.str)) := by rw [upd_ne bkah.symm]; exact hah7
                have hw8 : (upd H' bk (.dK (dkm (fs' ++ [y]) fun z => if z = y then V.str (S h) else .str (S (prev' z))))) (ad h) = some (.lst ws) := by rw [upd_ne (adbk h hpl)]; exact hw7
                have hbk8 : (upd H' bk (.dK (dkm (fs' ++ [y]) fun z => if z = y then V.str (S h) else .str (S (prev' z))))) bk = some (.dK (dkm (fs' ++ [y]) fun z => .str (S (if z = y then h else prev' z)))) := by
                  rw [upd_same]
                  exact congrArg (fun z => some (HO.dK z)) (dkm_cong fun z _ => by by_cases q : z = y <;> simp [q])
                generalize upd H' bk (.dK (dkm (fs' ++ [y]) fun z => if z = y then V.str (S h) else .str (S (prev' z)))) = H8 at SM8 bs8 hln8 hah8 hw8 hbk8
                -- lengths[place] = lengths[here] + length
                refine ⟨_, rfl, _, rfl, ln, .int (dist ts u h), rfl, by rw [← dkm_get (f := fun x => V.int (dist ts u x)) hh7]; exact DGet.k (k := Sum.inr (S h)) hln8, _, rfl, _, _, rfl, rfl, _, rfl, _, rfl, ln, _, rfl, DPut.k (k := Sum.inr (S y)) hln8 (szf _), ?_⟩
                rw [dkm_new hy]
                have SM9 := same_put (o := .dK (dkm (fs' ++ [y]) fun z => if z = y then V.int (dist ts u h + k) else .int (dist ts u z))) SM8 ln0
                have bs9 := bs8.off (o := .dK (dkm (fs' ++ [y]) fun z => if z = y then V.int (dist ts u h + k) else .int (dist ts u z))) (tkD hln8) Dln adln
                have hbk9 : (upd H8 ln (.dK (dkm (fs' ++ [y]) fun z => if z = y then V.int (dist ts u h + k) else .int (dist ts u z)))) bk = some (.dK (dkm (fs' ++ [y]) fun z => .str (S (if z = y then h else prev' z)))) := by rw [upd_ne bkln]; exact hbk8
                have hah9 : (upd H8 ln (.dK (dkm (fs' ++ [y]) fun z => if z = y then V.int (dist ts u h + k) else .int (dist ts u z)))) ah = some (.lst ((st''.map S).map V.str)) := by rw [upd_ne lnah.symm]; exact hah8
                have hw9 : (upd H8 ln (.dK (dkm (fs' ++ [y]) fun z => if z = y then V.int (dist ts u h + k) else .int (dist ts u z)))) (ad h) = some (.lst ws) := by rw [upd_ne (adln h hpl)]; exact hw8
                have hln9 : (upd H8 ln (.dK (dkm (fs' ++ [y]) fun z => if z = y then V.int (dist ts u h + k) else .int (dist ts u z)))) ln = some (.dK (dkm (fs' ++ [y]) fun z => .int (dist ts u z))) := by
                  rw [upd_same]
                  refine congrArg (fun z => some (HO.dK z)) (dkm_cong fun z _ => ?_)
                  by_cases q : z = y
                  · rw [if_pos q, q, e1]
                  · rw [if_neg q]
                generalize upd H8 ln (.dK (dkm (fs' ++ [y]) fun z => if z = y then V.int (dist ts u h + k) else .int (dist ts u z))) = H9 at SM9 bs9 hbk9 hah9 hw9 hln9
                -- ahead.append(place)
                have stl : st''.length ≤ 3000 := by omega
                refine ⟨_, rfl, .inl ⟨rfl, _, SqL.of hah9⟩, _, rfl, ah, _, _, rfl, rfl, hah9, by rw [List.length_map, List.length_map]; exact sz_lt (by omega), ?_⟩
                refine ⟨fs' ++ [y], st'' ++ [y], _, _, _, rfl, same_put SM9 ah0, bs9.off (TK.mut hah9) Dah adah, by rw [upd_ne (adah h hpl)]; exact hw9, by rw [upd_ne bkah]; exact hbk9, by rw [upd_ne lnah]; exact hln9, ?_, wk8, by rw [List.length_append]; omega, by rw [List.length_append, List.length_append]; omega, List.mem_append_left _ hh7, fun p hp => ?_⟩
                · rw [upd_same, List.map_append, List.map_append]
                  rfl
                · rw [et] at hp
                  rcases List.mem_append.mp hp with z | z
                  · exact List.mem_append_left _ (nb7 p z)
                  · rw [List.mem_singleton.mp z]
                    exact List.mem_append_right _ (List.mem_singleton.mpr rfl)
          · obtain ⟨fs', st'', prev', y7, y8, rfl, SM7, bs7, hw7, hbk7, hln7, hah7, wk7, le7, em7, hh7, nb7⟩ := hP
            refine ⟨fs', st'', prev', _, _, _, rfl, SM7, bs7, hbk7, hln7, hah7, wk7.shut fun y k ha => ?_, le7, em7⟩
            rw [wl, List.take_length] at nb7
            exact nb7 _ ((nbOf_adj ts h y k).mpr ha)
    · obtain ⟨fs, prev, x6, x7, x8, rfl, SM, hbk5, hln5, wk⟩ := hM
      refine ⟨_, rfl, _, rfl, (by show 2 ≤ sizeLine; decide), fun p np => ?_⟩
      refine q _ p bk ln fs prev (same_new SM np) ⟨upd_same, by rw [upd_ne (ne_of_none hbk5 np)]; exact hbk5, by rw [upd_ne (ne_of_none hln5 np)]; exact hln5, wk.all tr, wk.pr⟩
end
end Far

namespace Far
open PySem PySem.Spec PyProof.Rows L2
open C8 (pss_cut tCut)
open SX (S)
theorem inV_strsT (l : Nm) (ls : List Nm) : inV (.str (S l)) ((ls.map S).map V.str) = decide (l ∈ ls) := inV_strs l ls
theorem pl0_of {H : Hp} {v : V} {pl : List Nm} {ts : List Tie} (h : Dt H v (treeD pl ts)) : ∃ (t a b : Addr), v = .ref t ∧ H t = some (.tup [.ref a, .ref b]) ∧ TupAt H a ((pl.map S).map V.str) := by
  obtain ⟨t, a, b, vs, e, h1, h2, _⟩ := dt_tree h
  exact ⟨t, a, b, e, h1, h2⟩
abbrev s_check_places : Stmt := topS 8
abbrev N_check_places : List Str := ["tree", "names", "name"]
theorem sc_check_places : FnScope N_check_places ["tree", "names"] (defScope s_check_places) := ⟨rfl, rfl, rfl, by decide +kernel, rfl, by decide +kernel, by decide +kernel⟩
section
variable {P : Program} {w : World} {K : PySem.W.Frag} {mg : Str → Option Value} {base : Heap}
def spCheck : Sp := fun vs H Q _ => ∃ (v : V) (n : Addr) (pl ns : List Nm) (ts : List Tie), vs = [v, .ref n] ∧ Dt H v (treeD pl ts) ∧ H n = some (.tup ((ns.map S).map V.str)) ∧ (∀ x ∈ ns, x ∈ pl) ∧ Q .non H
theorem ok_check_places {f : Addr} {fd : FuncData} (F : Fun K "check_places" "check_places" s_check_places f fd) : FnOk P w K mg base CX0 1 f fd ["tree", "names"] spCheck := by
  refine F.ok sc_check_places (fun vs H Q E h => ?_) (fun cdv A outer s H vs Q E hr h => ?_)
  · obtain ⟨v, n, pl, ns, ts, rfl, _⟩ := h
    rfl
  · obtain ⟨v, n, pl, ns, ts, rfl, hd, hn, sub, q⟩ := h
    obtain ⟨t, a, b, rfl, ht, ha⟩ := pl0_of hd
    refine ⟨_, (pss_one (ps_for PassesOwn.never rfl (pi_tup (pv 1)) (pg_name (i := 2) sc_check_places.nd rfl (.inl rfl))
        (pss_one (ps_if (pt_cmpR op_notIn_seq (pv 2) (pe_ix ix_tup (pv 0) pe_int (fun _ _ => rfl)) rfl)
          (pss_one ps_never)
          pss_nil)))), ?_⟩
    refine ⟨_, rfl, n, rfl, ⟨_, SqT.of hn⟩, for_tup (K := K) (a := n) (xs := (ns.map S).map V.str) (fun i σ' H' => (∃ x2, σ' = [some (.ref t), some (.ref n), x2]) ∧ H' = H) ⟨⟨_, rfl⟩, rfl⟩ (fun i σ' H' _ hP => hP.2 ▸ SqT.of hn) (fun i x σ' H' hi hP => ?_) (fun σ' H' hP => hP.2 ▸ q)⟩
    obtain ⟨⟨x2, rfl⟩, rfl⟩ := hP
    obtain ⟨l, hl, rfl⟩ := strs_at (List.mem_of_getElem? hi)
    refine ⟨_, rfl, _, rfl, t, _, 0, .ref a, rfl, rfl, SqT.of ht, atI_nat (j := 0) rfl, a, _, rfl, .inr ha.sq, rfl, flat_strs pl, _, rfl, ?_⟩
    rw [inV_strs, decide_eq_true (sub l hl)]
    exact iteF ⟨⟨_, rfl⟩, rfl⟩
end
abbrev s_lengths_from : Stmt := topS 7
abbrev N_lengths_from : List Str := ["tree", "place", "_", "lengths", "name"]
theorem sc_lengths_from : FnScope N_lengths_from ["tree", "place"] (defScope s_lengths_from) := ⟨rfl, rfl, rfl, by decide +kernel, rfl, by decide +kernel, by decide +kernel⟩
section
variable {P : Program} {w : World} {K : PySem.W.Frag} {mg : Str → Option Value} {base : Heap}
def spLens : Sp := fun vs H Q _ => ∃ (v : V) (pl : List Nm) (ts : List Tie) (u : Nm), vs = [v, .str (S u)] ∧ Dt H v (treeD pl ts) ∧ Fine pl ts ∧ u ∈ pl ∧ ∀ (H' : Hp) (q : Addr), Same H H' → H q = none → H' q = some (.tup (pl.map fun x => .int (dist ts u x))) → Q (.ref q) H'
theorem lens_body {H1 : Hp} {q bk ln : Addr} {pl fs : List Nm} {ts : List Tie} {u : Nm} {prev : Nm → Nm} (W : Walked H1 q bk ln pl ts u fs prev) {x : Nm} (hx : x ∈ pl) {H' : Hp} (s : H' ln = H1 ln) : DGet H' ln (.str (S x)) (some (.int (dist ts u x))) := by
  have e := W.lens
  rw [← s] at e
  have := DGet.k (k := Sum.inr (S x)) e
  rw [dkm_get ((W.all x).mpr hx)] at this
  exact this
theorem ok_lengths_from {f : Addr} {fd : FuncData} (F : Fun K "lengths_from" "lengths_from" s_lengths_from f fd) (T : TxtW mg) (Ccheck_places : Cal P w K mg base 1 "check_places" spCheck) (Cwalk_from : Cal P w K mg base 2 "walk_from" spWalk) : FnOk P w K mg base CX0 3 f fd ["tree", "place"] spLens := by
  refine F.ok sc_lengths_from (fun vs H Q E h => ?_) (fun cdv A outer s H vs Q E hr h => ?_)
  · obtain ⟨v, pl, ts, u, rfl, _⟩ := h
    rfl
  · obtain ⟨v, pl, ts, u, rfl, hd, fine, hu, q⟩ := h
    obtain ⟨t, a, b, rfl, ht, ha⟩ := pl0_of hd
    refine ⟨_, (pss_cons (ps_expr (pe_c Ccheck_places hr (by decide) rfl (pa_cons (pv 0) (pa_cons (pe_tup (pa_cons (pv 1) pa_nil)) pa_nil))))
      (pss_cons (ps_asg (pe_c Cwalk_from hr (by decide) rfl (pa_cons (pv 0) (pa_cons (pv 1) pa_nil))) (pg_tup rfl (pgs_cons (pg_name (i := 2) sc_lengths_from.nd rfl (.inl rfl)) (pgs_cons (pg_name (i := 3) sc_lengths_from.nd rfl (.inr rfl)) pgs_nil))))
      (pss_one (ps_ret (pe_tupleOf (by rfl) T.tuple (pe_lc (own := [("name", 4)]) (g := gName 4) (tt := tYes) rfl sc_lengths_from.nd (pi_tup (pe_ix ix_tup (pv 0) pe_int (fun _ _ => rfl))) (blkOk_by (N := N_lengths_from) (sc := defScope s_lengths_from) (by decide +kernel)) (fun _ _ _ _ _ => pg_name (i := 4) sc_lengths_from.nd rfl (Or.inl rfl)) (fun _ _ _ _ _ => pts_nil) (fun _ _ _ _ _ => (pe_dget (hu_of hr) (pv 3) (pv 4) (fun _ _ => rfl))))))))), ?_⟩
    refine ⟨_, rfl, _, rfl, (by show 1 ≤ sizeLine; decide), fun p np => ?_⟩
    have s1 := same_new (o := .tup [.str (S u)]) (Same.refl H) np
    refine ⟨.ref t, p, pl, [u], ts, rfl, Dt.keep (TK.of s1) hd, upd_same, fun x hx => by rw [List.mem_singleton.mp hx]; exact hu, ?_⟩
    refine ⟨_, rfl, _, rfl, .ref t, pl, ts, u, rfl, Dt.keep (TK.of s1) hd, fine, hu, fun H1 g bk ln fs prev S1 W => ?_⟩
    have s2 := s1.trans S1
    refine ⟨g, _, rfl, SqT.of W.pair, rfl, _, _, rfl, _, _, rfl, rfl, ?_⟩
    refine ⟨_, rfl, t, _, 0, .ref a, rfl, rfl, SqT.of (s2 _ _ ht), atI_nat (j := 0) rfl, a, rfl, ⟨_, (ha.same s2).sq⟩, fun D nD => ?_⟩
    have Da : a ≠ D := (ha.same s2).ne nD
    have Dl : ln ≠ D := ne_of_none W.lens nD
    refine lc_tup (K := K) (a := a) (xs := (pl.map S).map V.str) (fun i H' => H' = upd H1 D (.lst ((pl.take i).map fun x => .int (dist ts u x)))) rfl (fun i H' _ hP => ?_) (fun i x H' hi hP => ?_) (fun H' hP => ?_)
    · rw [hP]
      exact ((ha.same s2).updN Da).sq
    · subst hP
      have pl1 := fine.len
      rw [List.getElem?_map, List.getElem?_map] at hi
      cases el : pl[i]? with
      | none =>
        rw [el] at hi
        cases hi
      | some l =>
        rw [el] at hi
        have ex : x = .str (S l) := (Option.some.inj hi).symm
        subst ex
        refine ⟨rfl, _, rfl, _, rfl, ln, .int (dist ts u l), rfl, lens_body W (List.mem_of_getElem? el) (upd_ne Dl), _, upd_same, by rw [List.length_map, List.length_take]; exact sz_lt (by omega), ?_⟩
        rw [upd_upd, List.take_add_one, el, List.map_append]
        rfl
    · subst hP
      rw [List.length_map, List.length_map, List.take_length]
      have s3 := same_new (o := .lst (pl.map fun x => V.int (dist ts u x))) s2 nD
      refine .inl ⟨D, _, rfl, SqL.of upd_same, fun r nr => ?_⟩
      exact q _ r (same_new s3 nr) (s3.free nr) upd_same
end
end Far

namespace Far
open PySem PySem.Spec PyProof.Rows PyProof.V L2
/-! ### max, min, sum of a tuple of whole numbers -/
section
variable {prog : Program} {w : World} {A : Around} {E : Value → Shared → Prop} {s : Shared} {t : Addr} {xs : Array (Int × Tok)}
theorem iter_intTup {Q : Value → Shared → Prop} (hl : s.heap.IsTuple t (intItems xs))
    (h : ∀ s₂ : Shared, s₂ = { s with heap := s.heap.push { cls := .type "tuple_iterator", data := .fields #[.ref t, .int 0 0] } } →
      (s₂.heap.IsTupleIter s.heap.objs.size t 0 ∧ s₂.heap.IsTuple t (intItems xs)) → (∀ b ∈ [s.heap.objs.size, t], b < s₂.heap.objs.size) → t ≠ s.heap.objs.size → Q (.ref s.heap.objs.size) s₂) : wpAny (model prog w) A (pyIter (.ref t)) Q E s := by
  have hlt : t < s.heap.objs.size := by obtain ⟨_, e, _⟩ := hl; exact Heap.lt_size e
  refine wpAny_pyIter_tuple hl (h _ rfl ⟨⟨_, Heap.get?_push_size _ rfl, rfl, rfl⟩, hl.at fun o e => Heap.get?_push_of_some _ e⟩ (fun b hb => ?_) (Nat.ne_of_lt hlt))
  show b < (s.heap.push _).objs.size
  rw [Heap.size_push]
  rcases List.mem_cons.mp hb with rfl | hb
  · exact Nat.lt_succ_self _
  · rcases List.mem_cons.mp hb with rfl | hb
    · exact Nat.lt_succ_of_lt hlt
    · cases hb
theorem old_keptT {s : Shared} {o : Obj} {h' : Heap} (k : ∀ b o', b ∉ [s.heap.objs.size] → (s.heap.push o).get? b = some o' → h'.get? b = some o') : ∀ b o', s.heap.get? b = some o' → h'.get? b = some o' :=
  fun b o' e => k b o' (fun hb => absurd (Heap.lt_size e) ((List.mem_singleton.mp hb) ▸ Nat.lt_irrefl _)) (Heap.get?_push_of_some _ e)
theorem max_intTup {Q : Value → Shared → Prop} (hh : A.handled = none) (hl : s.heap.IsTuple t (intItems xs)) (hne : 0 < xs.size)
    (h : ∀ v h' tk, (intItems xs)[argBest (fun i j => decide (numAt xs i > numAt xs j)) (xs.size - 1)]? = some v → (∀ b o, s.heap.get? b = some o → h'.get? b = some o) → Q v { s with heap := h', toks := tk }) :
    wpAny (model prog w) A (call (.builtin "max") [.ref t]) Q E s := by
  refine call_max_walk (iter_intTup hl fun s₂ e st hfp hlI => ?_)
  subst e
  refine ⟨_, _, _, _, _, _, _, rfl, Walks.tuple (A := A.in1) hh _ t hlI (intItems xs), st, hfp, by simpa [intItems] using hne, CmpOf.ints_gt (numAt xs) (fun _ _ => intItems_at), fun v h' tk hP hk => ?_⟩
  exact h v h' tk (by simpa [intItems] using hP) (old_keptT hk)
theorem min_intTup {Q : Value → Shared → Prop} (hh : A.handled = none) (hl : s.heap.IsTuple t (intItems xs)) (hne : 0 < xs.size)
    (h : ∀ v h' tk, (intItems xs)[argBest (fun i j => decide (numAt xs i < numAt xs j)) (xs.size - 1)]? = some v → (∀ b o, s.heap.get? b = some o → h'.get? b = some o) → Q v { s with heap := h', toks := tk }) :
    wpAny (model prog w) A (call (.builtin "min") [.ref t]) Q E s := by
  refine call_min_walk (iter_intTup hl fun s₂ e st hfp hlI => ?_)
  subst e
  refine ⟨_, _, _, _, _, _, _, rfl, Walks.tuple (A := A.in1) hh _ t hlI (intItems xs), st, hfp, by simpa [intItems] using hne, CmpOf.ints_lt (numAt xs) (fun _ _ => intItems_at), fun v h' tk hP hk => ?_⟩
  exact h v h' tk (by simpa [intItems] using hP) (old_keptT hk)
variable {its : List Value} {ns : List Int}
theorem maxT_raw {Q : Value → Shared → Prop} (hh : A.handled = none) (hl : s.heap.IsTuple t its.toArray) (hi : IntsAre its ns) (hne : 0 < ns.length)
    (h : ∀ h' tk M t', (∀ b o, s.heap.get? b = some o → h'.get? b = some o) → M ∈ ns → (∀ a, a ∈ ns → a ≤ M) → Q (.int M t') { s with heap := h', toks := tk }) : wpAny (model prog w) A (call (.builtin "max") [.ref t]) Q E s := by
  obtain ⟨xs, e⟩ := hi.allInts.items
  have hn : numsOf (intItems xs).toList = ns := by rw [← e]; exact hi.numsOf
  rw [nums_intItems] at hn
  subst hn
  rw [e] at hl
  have hsz : 0 < xs.size := by simpa using hne
  refine max_intTup hh hl hsz fun v h' tk hv hk => ?_
  obtain ⟨t, rfl⟩ := intItems_at hv
  obtain ⟨h1, h2⟩ := argBest_gt (numAt xs) (xs.size - 1)
  refine h h' tk _ t hk ?_ fun a ha => ?_
  · rw [numAt_eq]; exact PySem.getD_mem (by rw [List.length_map, Array.length_toList]; omega)
  · obtain ⟨j, hj, rfl⟩ := mem_getD ha
    rw [List.length_map, Array.length_toList] at hj
    rw [← numAt_eq]; exact h2 j (by omega)
theorem minT_raw {Q : Value → Shared → Prop} (hh : A.handled = none) (hl : s.heap.IsTuple t its.toArray) (hi : IntsAre its ns) (hne : 0 < ns.length)
    (h : ∀ h' tk M t', (∀ b o, s.heap.get? b = some o → h'.get? b = some o) → M ∈ ns → (∀ a, a ∈ ns → M ≤ a) → Q (.int M t') { s with heap := h', toks := tk }) : wpAny (model prog w) A (call (.builtin "min") [.ref t]) Q E s := by
  obtain ⟨xs, e⟩ := hi.allInts.items
  have hn : numsOf (intItems xs).toList = ns := by rw [← e]; exact hi.numsOf
  rw [nums_intItems] at hn
  subst hn
  rw [e] at hl
  have hsz : 0 < xs.size := by simpa using hne
  refine min_intTup hh hl hsz fun v h' tk hv hk => ?_
  obtain ⟨t, rfl⟩ := intItems_at hv
  obtain ⟨h1, h2⟩ := argBest_lt (numAt xs) (xs.size - 1)
  refine h h' tk _ t hk ?_ fun a ha => ?_
  · rw [numAt_eq]; exact PySem.getD_mem (by rw [List.length_map, Array.length_toList]; omega)
  · obtain ⟨j, hj, rfl⟩ := mem_getD ha
    rw [List.length_map, Array.length_toList] at hj
    rw [← numAt_eq]; exact h2 j (by omega)
theorem sumT_raw {Q : Value → Shared → Prop} (hh : A.handled = none) (hl : s.heap.IsTuple t its.toArray) (hi : IntsAre its ns)
    (h : ∀ h' tk t', (∀ b o, s.heap.get? b = some o → h'.get? b = some o) → Q (.int ns.sum t') { s with heap := h', toks := tk }) : wpAny (model prog w) A (call (.builtin "sum") [.ref t]) Q E s := by
  obtain ⟨xs, e⟩ := hi.allInts.items
  have hn : numsOf (intItems xs).toList = ns := by rw [← e]; exact hi.numsOf
  rw [nums_intItems] at hn
  rw [e] at hl
  refine PySem.W.ktm_sumG hh hl fun h' tk t' hk => ?_
  have := h h' tk t' hk
  rw [preSum_eq, List.take_of_length_le (by simp), hn]; exact this
end
section
variable {X : Cx}
def rMaxT (K : PySem.W.Frag) : List V → Hp → VK → Prop := fun vs H Q => ∃ (a : Addr) (ns : List Int), vs = [V.ref a] ∧ SqT K H a (ns.map V.int) ∧ 0 < ns.length ∧ ∀ m, m ∈ ns → (∀ y, y ∈ ns → y ≤ m) → Q (.int m) H
def rMinT (K : PySem.W.Frag) : List V → Hp → VK → Prop := fun vs H Q => ∃ (a : Addr) (ns : List Int), vs = [V.ref a] ∧ SqT K H a (ns.map V.int) ∧ 0 < ns.length ∧ ∀ m, m ∈ ns → (∀ y, y ∈ ns → m ≤ y) → Q (.int m) H
def rSumT (K : PySem.W.Frag) : List V → Hp → VK → Prop := fun vs H Q => ∃ (a : Addr) (ns : List Int), vs = [V.ref a] ∧ SqT K H a (ns.map V.int) ∧ Q (.int ns.sum) H
theorem cr_maxT {K : PySem.W.Frag} (hc : X.calm = true) (eK : X.K = K := by rfl) : CallR X (.builtin "max") (rMaxT K) := by
  subst eK
  intro pins s σ H vs us Q I r h
  obtain ⟨a, ns, rfl, hs, hne, q⟩ := h
  obtain ⟨its, rv, hl, _⟩ := I.tuple hs
  rw [Vals.ref1 r]
  exact maxT_raw (I.ok.hd hc) hl rv.ints hne fun h' tk m t' hk h1 h2 => ⟨.int _, H, I.kept hk, ⟨_, rfl⟩, q m h1 h2⟩
theorem cr_minT {K : PySem.W.Frag} (hc : X.calm = true) (eK : X.K = K := by rfl) : CallR X (.builtin "min") (rMinT K) := by
  subst eK
  intro pins s σ H vs us Q I r h
  obtain ⟨a, ns, rfl, hs, hne, q⟩ := h
  obtain ⟨its, rv, hl, _⟩ := I.tuple hs
  rw [Vals.ref1 r]
  exact minT_raw (I.ok.hd hc) hl rv.ints hne fun h' tk m t' hk h1 h2 => ⟨.int _, H, I.kept hk, ⟨_, rfl⟩, q m h1 h2⟩
theorem cr_sumT {K : PySem.W.Frag} (hc : X.calm = true) (eK : X.K = K := by rfl) : CallR X (.builtin "sum") (rSumT K) := by
  subst eK
  intro pins s σ H vs us Q I r h
  obtain ⟨a, ns, rfl, hs, q⟩ := h
  obtain ⟨its, rv, hl, _⟩ := I.tuple hs
  rw [Vals.ref1 r]
  exact sumT_raw (I.ok.hd hc) hl rv.ints fun h' tk t' hk => ⟨.int _, H, I.kept hk, ⟨_, rfl⟩, q⟩
theorem cr_maxL {K : PySem.W.Frag} (hc : X.calm = true) (eK : X.K = K := by rfl) : CallR X (.builtin "max") (rMax K) := by subst eK; exact cr_max hc
theorem cr_minL {K : PySem.W.Frag} (hc : X.calm = true) (eK : X.K = K := by rfl) : CallR X (.builtin "min") (rMin K) := by subst eK; exact cr_min hc
theorem cr_sumL {K : PySem.W.Frag} (hc : X.calm = true) (eK : X.K = K := by rfl) : CallR X (.builtin "sum") (rSum K) := by subst eK; exact cr_sum hc
end
end Far

namespace Far
open PySem PySem.Spec PyProof.Rows L2
open C8 (pss_cut tCut)
open SX (S)
end Far

namespace Far
open PySem PySem.Spec PyProof.Rows L2
open C8 (pss_cut tCut)
open SX (S)
open RZ (ItzT iZipA pi_zipA)
theorem kit_cls (K : PySem.W.Frag) {a b : String} {r : Bool} (h : kitB a b = some r) : PySem.W.kitOne K (.type a) (.type b) = some r := kit_ty h
section
variable {P : Program} {w : World} {K : PySem.W.Frag} {mg : Str → Option Value} {base : Heap}
theorem zip_it {K : PySem.W.Frag} {a b : Addr} {xs ys : List V} {g : TG} {tt : TT} {te : TE} {vs : List Nat} {σ : L2.St} {H1 : Hp} {D : Addr} {Qd : Hp → Prop} (len : xs.length = ys.length) (Pv : Nat → Hp → Prop) (h0 : Pv 0 (upd H1 D (.lst []))) (hl : ∀ i H, Pv i H → SqT K H a xs ∧ SqT K H b ys)
    (hs : ∀ i x y H T, xs[i]? = some x → ys[i]? = some y → Pv i H → H T = none → g (.ref T) (wipe σ vs) (upd H T (.tup [x, y])) fun σ2 H2 => wipe σ2 vs = wipe σ vs ∧ tt σ2 H2 fun b H3 =>
      if b = true then te σ2 H3 fun y H4 => ∃ acc, H4 D = some (.lst acc) ∧ acc.length < sizeLine ∧ Pv (i + 1) (upd H4 D (.lst (acc ++ [y]))) else Pv (i + 1) H3) (hd : ∀ H, Pv xs.length H → Qd H) :
    ∃ W : Nat → Nat → Hp → Prop, (∃ m, W 0 m (upd H1 D (.lst []))) ∧ ∀ i m H, W i m H →
      ((ItzT K a b).stop i H ∧ Qd H) ∨ ((ItzT K a b).go i H ∧ ∃ Nx : Hp → Prop, (∀ H', Nx H' → ∃ m', m' < m ∧ W (i + 1) m' H') ∧ ∀ v H', (ItzT K a b).yld i H v H' → g v (wipe σ vs) H' fun σ2 H2 => wipe σ2 vs = wipe σ vs ∧ tt σ2 H2 fun b H3 =>
        if b = true then te σ2 H3 fun y H4 => ∃ acc, H4 D = some (.lst acc) ∧ acc.length < sizeLine ∧ Nx (upd H4 D (.lst (acc ++ [y]))) else Nx H3) := by
  refine ⟨fun i m H => m = xs.length - i ∧ i ≤ xs.length ∧ Pv i H, ⟨xs.length, by simp, Nat.zero_le _, h0⟩, fun i m H ⟨em, hi, p⟩ => ?_⟩
  obtain ⟨q1, q2⟩ := hl i H p
  by_cases lt : i < xs.length
  · have lt2 : i < ys.length := by omega
    refine .inr ⟨⟨xs, ys, xs[i], ys[i], q1, q2, by simp [lt], by simp [lt2]⟩, Pv (i + 1), fun H' p' => ⟨xs.length - (i + 1), by omega, rfl, lt, p'⟩, fun v H' ⟨T, x, y, ev, nT, eH, hx, hy⟩ => ?_⟩
    rw [ev, eH]
    exact hs i x y H T (hx xs q1) (hy ys q2) p nT
  · have e : i = xs.length := by omega
    rw [e] at p
    exact .inl ⟨⟨xs, ys, q1, q2, .inl (by omega)⟩, hd H p⟩
theorem dt_any {H : Hp} {u : V} {ds : List PyData} (h : Dt H u (.tuple ds)) : ∃ (a : Addr) (xs : List V), u = .ref a ∧ TupAt H a xs ∧ DtAll H xs ds := by
  cases h with
  | tup ha hs => exact ⟨_, _, rfl, .inl ha, hs⟩
  | @tupZ a pl _ o e n d ha =>
    subst e
    exact ⟨_, _, rfl, .inr ⟨o, d, ha⟩, dt_strs H pl⟩
theorem TupAt.ty {K : PySem.W.Frag} {H : Hp} {a : Addr} {xs : List V} (h : TupAt H a xs) : TyX K H (.ref a) (.type "tuple") := h.elim (fun h => .base (.tup h)) fun ⟨_, _, h⟩ => .fTuple h
end
end Far

namespace Far
open PySem PySem.Spec PyProof.Rows L2
open C8 (pss_cut tCut)
open SX (S)
/-! ### the greatest and the least of whole numbers -/
def mxI : List Int → Int
  | [] => 0
  | x :: r => max x (mxI r)
def mxG : List Int → Int
  | [] => 0
  | [x] => x
  | x :: y :: r => max x (mxG (y :: r))
def mnG : List Int → Int
  | [] => 0
  | [x] => x
  | x :: y :: r => min x (mnG (y :: r))
theorem mxG_in : ∀ {l : List Int}, l ≠ [] → mxG l ∈ l ∧ ∀ y ∈ l, y ≤ mxG l
  | [], h => absurd rfl h
  | [x], _ => ⟨List.mem_singleton.mpr rfl, fun y hy => by rw [List.mem_singleton.mp hy]; exact Int.le_refl _⟩
  | x :: y :: r, _ => by
    obtain ⟨h1, h2⟩ := mxG_in (l := y :: r) (by intro z; cases z)
    show max x (mxG (y :: r)) ∈ _ ∧ _
    refine ⟨?_, fun z hz => ?_⟩
    · by_cases c : x ≤ mxG (y :: r)
      · rw [Int.max_eq_right c]
        exact List.mem_cons_of_mem _ h1
      · rw [Int.max_eq_left (by omega)]
        exact List.mem_cons_self ..
    · show z ≤ max x (mxG (y :: r))
      rcases List.mem_cons.mp hz with q | q
      · rw [q]
        exact Int.le_max_left _ _
      · exact Int.le_trans (h2 z q) (Int.le_max_right _ _)
theorem mnG_in : ∀ {l : List Int}, l ≠ [] → mnG l ∈ l ∧ ∀ y ∈ l, mnG l ≤ y
  | [], h => absurd rfl h
  | [x], _ => ⟨List.mem_singleton.mpr rfl, fun y hy => by rw [List.mem_singleton.mp hy]; exact Int.le_refl _⟩
  | x :: y :: r, _ => by
    obtain ⟨h1, h2⟩ := mnG_in (l := y :: r) (by intro z; cases z)
    show min x (mnG (y :: r)) ∈ _ ∧ _
    refine ⟨?_, fun z hz => ?_⟩
    · by_cases c : x ≤ mnG (y :: r)
      · rw [Int.min_eq_left c]
        exact List.mem_cons_self ..
      · rw [Int.min_eq_right (by omega)]
        exact List.mem_cons_of_mem _ h1
    · show min x (mnG (y :: r)) ≤ z
      rcases List.mem_cons.mp hz with q | q
      · rw [q]
        exact Int.min_le_left _ _
      · exact Int.le_trans (Int.min_le_right _ _) (h2 z q)
theorem mxG_is {l : List Int} {m : Int} (h1 : m ∈ l) (h2 : ∀ y ∈ l, y ≤ m) : m = mxG l := by
  obtain ⟨k1, k2⟩ := mxG_in (l := l) (by intro z; rw [z] at h1; cases h1)
  exact Int.le_antisymm (k2 m h1) (h2 _ k1)
theorem mnG_is {l : List Int} {m : Int} (h1 : m ∈ l) (h2 : ∀ y ∈ l, m ≤ y) : m = mnG l := by
  obtain ⟨k1, k2⟩ := mnG_in (l := l) (by intro z; rw [z] at h1; cases h1)
  exact Int.le_antisymm (h2 _ k1) (k2 m h1)
/-- how far a place is from its farthest -/
noncomputable def rch (pl : List Nm) (ts : List Tie) (u : Nm) : Int := mxG (pl.map fun x => dist ts u x)
theorem map_int (pl : List Nm) (f : Nm → Int) : (pl.map fun x => V.int (f x)) = (pl.map f).map V.int := by rw [List.map_map]; rfl
theorem at_name {pl : List Nm} {i : Nat} {v : V} (hi : ((pl.map S).map V.str)[i]? = some v) : ∃ x, pl[i]? = some x ∧ x ∈ pl ∧ v = .str (S x) ∧ pl.take (i + 1) = pl.take i ++ [x] := by
  rw [List.getElem?_map, List.getElem?_map] at hi
  cases el : pl[i]? with
  | none => rw [el] at hi; cases hi
  | some x => rw [el] at hi; exact ⟨x, rfl, List.mem_of_getElem? el, (Option.some.inj hi).symm, by rw [List.take_add_one, el]; rfl⟩
/-- the places whose number is n -/
def thoseD (pl : List Nm) (f : Nm → Int) (n : Int) : PyData := .tuple ((pl.filter fun x => f x == n).map strD)
theorem dts_S (H : Hp) : ∀ pl : List Nm, DtAll H ((pl.map S).map V.str) (pl.map strD)
  | [] => .nil
  | x :: r => .cons (.str _) (dts_S H r)
theorem dts_I (H : Hp) : ∀ ns : List Int, DtAll H (ns.map V.int) (ns.map PyData.int)
  | [] => .nil
  | x :: r => .cons (.int _) (dts_I H r)
theorem take_snoc_filter {pl : List Nm} {f : Nm → Int} {n : Int} {i : Nat} {x : Nm} (h : pl.take (i + 1) = pl.take i ++ [x]) : (pl.take (i + 1)).filter (fun x => f x == n) = (pl.take i).filter (fun x => f x == n) ++ (if f x = n then [x] else []) := by
  rw [h, List.filter_append]
  by_cases c : f x = n
  · rw [if_pos c, List.filter_cons, if_pos (by simp [c])]
    rfl
  · rw [if_neg c, List.filter_cons, if_neg (by simp [c])]
    rfl
end Far

namespace Far
open PySem PySem.Spec PyProof.Rows L2
open C8 (pss_cut tCut)
open SX (S)
open RZ (ItzT iZipA pi_zipA)
structure TxtMF (mg : Str → Option Value) : Prop where
  tuple : mg "tuple" = none
  max : mg "max" = none
noncomputable def midN (pl : List Nm) (ts : List Tie) : Int := mnG (pl.map (rch pl ts))
noncomputable def foeD (pl : List Nm) (ts : List Tie) : PyData := .tuple ((pl.map (rch pl ts)).map .int)
noncomputable def midD (pl : List Nm) (ts : List Tie) : PyData := .tuple [.int (midN pl ts), thoseD pl (rch pl ts) (midN pl ts)]
abbrev s_farthest_of_each : Stmt := topS 12
abbrev N_farthest_of_each : List Str := ["tree", "place"]
theorem sc_farthest_of_each : FnScope N_farthest_of_each ["tree"] (defScope s_farthest_of_each) := ⟨rfl, rfl, rfl, by decide +kernel, rfl, by decide +kernel, by decide +kernel⟩
section
variable {P : Program} {w : World} {K : PySem.W.Frag} {mg : Str → Option Value} {base : Heap}
def spFoe : Sp := fun vs H Q _ => ∃ (v : V) (pl : List Nm) (ts : List Tie), vs = [v] ∧ Dt H v (treeD pl ts) ∧ Fine pl ts ∧ ∀ (H' : Hp) (q : Addr), Same H H' → H q = none → H' q = some (.tup ((pl.map (rch pl ts)).map V.int)) → Q (.ref q) H'
def spMid : Sp := fun vs H Q _ => ∃ (v : V) (pl : List Nm) (ts : List Tie), vs = [v] ∧ Dt H v (treeD pl ts) ∧ Fine pl ts ∧ ∀ (H' : Hp) (r : V), Same H H' → Dt H' r (midD pl ts) → Q r H'
theorem ok_foe {f : Addr} {fd : FuncData} (F : Fun K "farthest_of_each" "farthest_of_each" s_farthest_of_each f fd) (T : TxtMF mg) (Clengths_from : Cal P w K mg base 3 "lengths_from" spLens) : FnOk P w K mg base CX0 4 f fd ["tree"] spFoe := by
  refine F.ok sc_farthest_of_each (fun vs H Q E h => ?_) (fun cdv A outer s H vs Q E hr h => ?_)
  · obtain ⟨v, pl, ts, rfl, _⟩ := h
    rfl
  · obtain ⟨v, pl, ts, rfl, hd, fine, q⟩ := h
    obtain ⟨t, a, b, vs, rfl, ht, ha, hb, hA⟩ := dt_tree hd
    have pl1 := fine.len
    refine ⟨_, (pss_one (ps_ret (pe_tupleOf (by rfl) T.tuple (pe_lc (own := [("place", 1)]) (g := gName 1) (tt := tYes) rfl sc_farthest_of_each.nd (pi_tup (pe_ix ix_tup (pv 0) pe_int (fun _ _ => rfl))) (blkOk_by (N := N_farthest_of_each) (sc := defScope s_farthest_of_each) (by decide +kernel)) (fun _ _ _ _ _ => pg_name (i := 1) sc_farthest_of_each.nd rfl (Or.inl rfl)) (fun _ _ _ _ _ => pts_nil) (fun _ _ _ _ _ => (pe_callB (cr_maxT (K := K) rfl) (by rfl) T.max bt_max (pa_cons (pe_c Clengths_from hr (by decide) rfl (pa_cons (pv 0) (pa_cons (pv 1) pa_nil))) pa_nil))))))), ?_⟩
    refine ⟨_, rfl, t, _, 0, .ref a, rfl, rfl, SqT.of ht, atI_nat (j := 0) rfl, a, rfl, ⟨_, ha.sq⟩, fun D nD => ?_⟩
    refine lc_tup (K := K) (a := a) (xs := (pl.map S).map V.str) (fun i H' => Same H H' ∧ H' D = some (.lst (((pl.take i).map (rch pl ts)).map V.int))) ⟨same_new (Same.refl H) nD, upd_same⟩ (fun i H' _ hP => (ha.same hP.1).sq) (fun i v H' hi hP => ?_) (fun H' hP => ?_)
    · obtain ⟨SM, hD⟩ := hP
      obtain ⟨x, ex, hx, rfl, et⟩ := at_name hi
      refine ⟨rfl, _, rfl, _, rfl, .ref t, pl, ts, x, rfl, Dt.keep (TK.of SM) hd, fine, hx, fun H2 L S2 nL hL => ?_⟩
      rw [map_int] at hL
      refine ⟨L, _, rfl, SqT.of hL, by rw [List.length_map]; exact List.length_pos_of_mem hx, fun m hm hle => ?_⟩
      rw [mxG_is hm hle]
      refine ⟨_, S2 _ _ hD, ?_, same_put (SM.trans S2) nD, ?_⟩
      · rw [List.length_map, List.length_map, List.length_take]
        exact sz_lt (by omega)
      · rw [upd_same, et, List.map_append, List.map_append]
        rfl
    · obtain ⟨SM, hD⟩ := hP
      rw [List.length_map, List.length_map, List.take_length] at hD
      exact .inl ⟨D, _, rfl, SqL.of hD, fun q1 nq1 => q _ q1 (same_new SM nq1) (SM.free nq1) upd_same⟩
end
end Far

namespace Far
open PySem PySem.Spec PyProof.Rows L2
section
variable {X : Cx} {o e : Expr} {es : List Expr} {to te : TE} {ta : TA} {f : Str} {p p' p1 p2 pos : Pos}
/-- C0.__init__(self, ..), C0 an own class over ValueError without an __init__ of its own -/
theorem pe_owninit {x : Str} {C0 : Addr} {pl : Sem Bool} (hg : Gl X x) (hm : X.mg x = some (.ref C0)) (rd : PySem.W.readsIn X.K C0 (.type "type") = true) (ga : PySem.W.specialIn X.K (.ref C0) "__getattribute__" = some (some (.builtin "type.__getattribute__")))
    (vV : PySem.W.findCls X.K (.ref C0) (.type "type") "__init__" = some (.val (.builtin "ValueError.__init__"))) (ha : PA X (e :: es) ta)
    (hdb : (x == ("__debug__" : Str)) = false := by decide)
    (hc : eval (.Call (.Attribute (.Name x p1) "__init__" p2) (e :: es) [] pos) X.env = (do
      let ov ← eval (.Name x p1) X.env
      standAt p2.atName
      let (f, first) ← holding [ov] (getMethod ov "__init__" pl)
      callWith pos f first (backTo pos (starEach (e :: es) X.env)) (backToKw pos (keywordEach [] X.env))) := by rfl)
    (he : starEach (e :: es) X.env = (false, eval e X.env) :: starEach es X.env := by rfl) (hpl : (backTo pos (starEach es X.env)).any (·.1) = false := by rfl) :
    PE X (.Call (.Attribute (.Name x p1) "__init__" p2) (e :: es) [] pos) (tVeI X.K ta) := by
  refine ⟨fun pins s σ H Q I h => ?_⟩
  refine PySem.W.methodCall_KW (ld_glob I hg hm ?_ hdb) hc
  refine PySem.W.method_cls I.kIn ga ?_
  refine PySem.W.cls_value I.kIn rd vV (by decide +kernel) ?_
  show wpAny _ _ (callWith pos (Value.builtin "ValueError.__init__") [] (backTo pos (starEach (e :: es) X.env)) []) _ _ _
  refine PyProof.Rows.callWith_method1 (thn (ha.run pos pins _ σ H _ (I.tok _) h) fun us s1 ⟨vs, H1, I1, r1, a, C, ws, ev, hl, T, ea, q⟩ => ?_) he hpl
  subst ev
  cases r1 with
  | @cons _ u0 _ ur ra rw' =>
    obtain rfl : u0 = Value.ref a := ra
    have hlen : ur.length ≤ sizeLine := by
      rw [← Paired.length rw', sizeLine_eq]
      omega
    exact oinit_ok T I1 ea hlen fun s' J => ⟨.non, H1, J, rfl, q⟩
end
end Far

namespace Far
open PySem PySem.Spec PyProof.Rows L2
/-! ### except x as e: name = e, the error kept behind the suite -/
/-- an error that was caught: of the class cls, its own dict at d -/
def caughtO (a : Addr) (cls : Value) (d : Option Addr) : HO := .ext fun h => ∃ (oe : Obj) (vs : Array Value), h.get? a = some oe ∧ Zc cls d oe ∧ oe.data = .fields vs
theorem caughtO_ok {P : Program} {w : World} {H : Hp} {h : Heap} {a : Addr} {cls : Value} {d : Option Addr} {oe : Obj} {vs : Array Value} (e : h.get? a = some oe) (z : Zc cls d oe) (hd : oe.data = .fields vs) : ObjOk P w H h a (caughtO a cls d) :=
  ⟨⟨oe, vs, e, z, hd⟩, ⟨oe, e⟩, fun _ _ ⟨o, v, q, r⟩ k => ⟨o, v, k o q, r⟩⟩
theorem caughtO_at {P : Program} {w : World} {H : Hp} {h : Heap} {a : Addr} {cls : Value} {d : Option Addr} (hok : HOk P w H h) (he : H a = some (caughtO a cls d)) : ∃ (oe : Obj) (vs : Array Value), h.get? a = some oe ∧ Zc cls d oe ∧ oe.data = .fields vs := by
  have x : ObjOk P w H h a (.ext fun h => ∃ (oe : Obj) (vs : Array Value), h.get? a = some oe ∧ Zc cls d oe ∧ oe.data = .fields vs) := hok a _ he
  exact x.1
section
variable {X : Cx} {pins : List (Addr × Obj)} {σ : L2.St} {H : Hp} {s : Shared}
/-- an object that was pinned, new in this call, is tracked from here on -/
theorem adopt {a : Addr} {oe : Obj} {vs : Array Value} {cls : Value} {d : Option Addr} (I : Inv X ((a, oe) :: pins) σ H s) (z : Zc cls d oe) (hd : oe.data = .fields vs) (h0 : X.s_0.heap.get? a = none) (hp : ∀ p ∈ X.pn ++ pins, p.1 ≠ a) :
    Inv X pins σ (upd H a (caughtO a cls d)) s := by
  obtain ⟨pa, na, nL, nF, nc⟩ := I.pin (a, oe) (List.mem_append_right _ List.mem_cons_self)
  have pa : s.heap.get? a = some oe := pa
  have na : H a = none := na
  have nL : a ≠ X.env.locals := nL
  refine ⟨I.ok, I.os, I.bare, ⟨I.base.keep, I.base.slot, fun b o e n hx => ?_, I.base.there, fun b xs e => ?_, fun b o u e => ?_, fun b ps e => ?_⟩, I.loc, I.cell, ?_, fun x c e => ?_, fun p hq => ?_, ?_, I.len⟩
  · have hb : b ≠ a := fun q => by rw [q, h0] at e; cases e
    rw [upd_ne hb]
    exact I.base.free b o e n hx
  · have q := I.base.tups b xs e
    rw [upd_ne (ne_of_none q na)]
    exact q
  · have q := I.base.frzs b o u e
    rw [upd_ne (ne_of_none q na)]
    exact q
  · obtain ⟨more, q⟩ := I.base.tbls b ps e
    refine ⟨more, ?_⟩
    rw [upd_ne (ne_of_none q na)]
    exact q
  · rw [upd_ne (Ne.symm nL)]
    exact I.free
  · obtain ⟨v, hc⟩ := I.cell x c e
    have hb : c ≠ a := fun q => by
      obtain ⟨o, ho, hcl⟩ := hc
      rw [q, pa] at ho
      cases ho
      exact nc v (by first | exact hcl | exact hcl.1 | exact hcl.2)
    rw [upd_ne hb]
    exact I.freeC x c e
  · have m : p ∈ X.pn ++ ((a, oe) :: pins) := by
      rcases List.mem_append.mp hq with h | h
      · exact List.mem_append_left _ h
      · exact List.mem_append_right _ (List.mem_cons_of_mem _ h)
    obtain ⟨q1, q2, q3⟩ := I.pin p m
    exact ⟨q1, by rw [upd_ne (hp p hq)]; exact q2, q3⟩
  · exact I.hok.laidN (fun _ _ q => q) na (caughtO_ok pa z hd)
end
/-- what the clause 'except x as n: m = n' wishes of an exception of the body: slot i is n's, j is m's -/
def wKeep (K : PySem.W.Frag) (c : Value) (i j : Nat) (Wout : WX) (D : Ends) : WX := fun cls d σ H =>
  ∃ b, PySem.W.exmOne K cls c = some b ∧ (b = true → ∀ a, H a = none → D.nx (((σ.set i (some (.ref a))).set j (some (.ref a))).set i none) (upd H a (caughtO a cls d))) ∧
    (b = false → Wout cls d σ H)
section
variable {X : Cx} {x n : Str} {c : Value} {i j : Nat} {body : List Stmt} {b₀ : Stmt} {np pos pos' : Pos} {tb : WX → TS} {ts : TS} {Wout : WX}
theorem ps_try_keep (hs : X.stack = X.env :: X.outer) (hf : X.env.frame = some X.env.locals) (hex : X.ex = []) (hN : X.N.Nodup) (hi : X.N[i]? = some n) (hln : X.env.kindOf n = some .local) (hc : Names X x c) (tk : Takes X Wout)
    (hb : ∀ (W : WX) (pn : List (Addr × Obj)) (xe : Value → Shared → Prop), Takes (X.tr pn xe) W → PassesOwn (model X.prog X.w) X.A X.env xe → PSs (X.tr pn xe) body (tb W))
    (hsu : ∀ (a : Addr) (oe : Obj) (cls : Value) (d : Option Addr) (pn : List (Addr × Obj)), Zc cls d oe → (∃ vs, oe.data = .fields vs) → PSs (X.suite a ((a, oe) :: pn)) [b₀] ts)
    (hts : ∀ (D : Ends) (σ : L2.St) (H : Hp) (a : Addr), σ[i]? = some (some (.ref a)) → D.nx (σ.set j (some (.ref a))) H → ts D σ H) :
    PS X (.Try body [.ExceptHandler (some (.Name x np)) (some n) [b₀] pos'] [] [] pos) (fun D σ H => tb (wKeep X.K c i j Wout D) D σ H) := by
  refine ⟨fun pins s σ H D I h => ?_⟩
  have ok := I.ok
  have hfr : X.A.frames = some (X.env :: X.outer) := by rw [ok.frames, hs]
  have hloc : Loc X.env.scope n := .inl hln
  refine wpAny_Try_except ?_
  refine wpAny_mono ((hb (wKeep X.K c i j Wout D) (X.pn ++ pins) (fun e s₁ => wpAny (model X.prog X.w) X.A (noteFrame e X.env) (fun _ s₂ => wpAny (model X.prog X.w) X.A (setFlight e none) (fun _ s₃ =>
    wpAny (model X.prog X.w) X.A (handleBy e X.env [.ExceptHandler (some (.Name x np)) (some n) [b₀] pos']) (SP X pins D) X.xe s₃) X.xe s₂) X.xe s₁) (fun u s' xx => ?_) PassesOwn.looking).run [] s σ H D (I.toTry _) h) (fun f s1 hsp => ?_) (fun e s1 he => he)
  · obtain ⟨a, B, sI, pins', σ', H', cls, d, rfl, J', nb, up, sky, na, os, ag, b, hb1, hyes, hno⟩ := xx
    have J : Inv X pins σ' H' sI := J'.ofTry ok
    have sky' : Sky B (X.env :: X.outer) a (Zc cls d) X.env.locals s'.heap := by rw [← hs]; exact sky
    show wpAny _ X.A (noteFrame (.ref a) X.env) _ _ _
    refine Sky.land Zc.steady hfr hf sky' fun h3 fl3 up3 => ?_
    have J3 : Inv X pins σ' H' { s' with heap := h3 } := J.landed nb fl3.1 (up.trans up3) os ag
    obtain ⟨oe3, vs3, he3, hz3, hd3⟩ := fl3.there
    have notFr : ∀ {h : Heap} {o : Obj} {vs : Array Value}, h.FunFrames B (X.env :: X.outer) → h.get? a = some o → o.data = .fields vs → a ∉ frs (X.env :: X.outer) := fun {h o vs} ff e dd hm => by
      obtain ⟨_, o', e', hnf⟩ := ff.mem hm
      rw [e] at e'; cases e'
      exact hnf _ dd
    have nfr := notFr fl3.2.2.1 he3 hd3
    have nL : a ≠ X.env.locals := fun z => nfr (List.mem_filterMap.mpr ⟨X.env, List.mem_cons_self, by rw [hf, z]⟩)
    have nF : a ∉ X.fs := fun hm => by
      obtain ⟨e, he, q⟩ := List.mem_filterMap.mp hm
      exact nfr (List.mem_filterMap.mpr ⟨e, List.mem_cons_of_mem _ he, q⟩)
    have nB : B.get? a = none := fl3.2.1
    have nI : sI.heap.get? a = none := by
      cases q : sI.heap.get? a with
      | none => rfl
      | some o =>
        have := nb a o q (by rw [hs]; exact nfr)
        rw [nB] at this
        cases this
    have n0 : X.s_0.heap.get? a = none := by
      cases q : X.s_0.heap.get? a with
      | none => rfl
      | some o =>
        obtain ⟨o', q'⟩ := J.base.there a o q (by rw [hex]; intro z; cases z)
        rw [nI] at q'
        cases q'
    have nP : ∀ p ∈ X.pn ++ pins, p.1 ≠ a := fun p hp z => by
      have := (J.pin p hp).1
      rw [z, nI] at this
      cases this
    have S3 := J3.suite he3 hd3 na nL nF
    refine wpAny_handleBy_cons (codeAny_handlers_test ?_) (by intro q; cases q)
    have LT : PySem.W.Looks (model X.prog X.w) h3 (typeOf (.ref a)) cls := fun A Q E s k q => wpAny_typeOf_ref (k _ _ he3) (by rw [hz3.1]; exact q)
    have LM := PySem.W.exm_one (M := model X.prog X.w) (J3.kIn) LT hb1
    have test : ∀ {Q : Value → Shared → Prop} {E : Value → Shared → Prop}, Q c { s' with heap := h3 } → wpAny (model X.prog X.w) (X.A.mark (some (.ref a))) (eval (.Name x np) X.env) Q E { s' with heap := h3 } := fun {Q E} q => by
      obtain ⟨hg, hdbg, hm | ⟨hm, hv, hnn⟩⟩ := hc
      · exact ld_glob (X := X.suite a ((a, oe3) :: (X.pn ++ pins))) S3 hg hm q hdbg
      · exact ld_blt (X := X.suite a ((a, oe3) :: (X.pn ++ pins))) S3 hg hm hv q hnn hdbg
    refine test (LM.here ?_)
    cases b with
    | true =>
      refine codeAny_handlers_suite_as ?_
      refine HandSPX.lands_againZ fl3 fun h4 fl4 up4 => ?_
      have J4 : Inv X pins σ' H' { s' with heap := h4 } := J.landed nb fl4.1 ((up.trans up3).trans up4) os ag
      obtain ⟨oe4, vs4, he4, hz4, hd4⟩ := fl4.there
      have S4 := J4.suite he4 hd4 na nL nF
      refine store_ok (X := X.suite a ((a, oe4) :: (X.pn ++ pins))) (v := .ref a) S4 hN hi hloc rfl (fun s5 S5 => ?_) (.inr hln)
      have li : i < σ'.length := by
        rw [J4.len]
        exact (List.getElem?_eq_some_iff.mp hi).1
      have run := (hsu a oe4 cls d (X.pn ++ pins) hz4 ⟨_, hd4⟩).run [] s5 (σ'.set i (some (.ref a))) H' { nx := fun σ6 H6 => σ6 = (σ'.set i (some (.ref a))).set j (some (.ref a)) ∧ H6 = H', rt := fun _ _ => False, bk := fun _ _ => False, ct := fun _ _ => False } S5
        (hts _ _ _ a (by simp [li]) ⟨rfl, rfl⟩)
      refine wpAny_mono run (fun f s6 hsp => ?_) (fun _ _ z => False.elim z)
      have end_ : ∀ {σ6 : L2.St} {H6 : Hp} {Q : Shared → Prop}, Inv (X.suite a ((a, oe4) :: (X.pn ++ pins))) [] σ6 H6 s6 → (∀ s7, Inv X ((a, oe4) :: pins) (σ6.set i none) H6 s7 → Q s7) →
          wpAny (model X.prog X.w) X.A (do bindName X.env n .none; unbindBehindTheSuite X.env n pos') (fun _ s7 => Q s7) X.xe s6 := fun {σ6 H6 Q} S6 hq => by
        have S6' : Inv X ((a, oe4) :: pins) σ6 H6 s6 := ⟨ok, S6.os, S6.bare, S6.base, S6.loc, S6.cell, S6.free, S6.freeC, fun p hp => S6.pin p (by
          refine List.mem_append_left _ ?_
          show p ∈ (a, oe4) :: (X.pn ++ pins)
          rcases List.mem_append.mp hp with h | h
          · exact List.mem_cons_of_mem _ (List.mem_append_left _ h)
          · rcases List.mem_cons.mp h with h | h
            · rw [h]; exact List.mem_cons_self
            · exact List.mem_cons_of_mem _ (List.mem_append_right _ h)), S6.hok, S6.len⟩
        exact gone_ok S6' hN hi hln hq
      cases f with
      | next =>
        obtain ⟨σ6, H6, S6, e1, e2⟩ := hsp
        subst e1 e2
        exact end_ S6 fun s7 J7 => ⟨_, _, adopt J7 hz4 hd4 n0 nP, hyes rfl a na⟩
      | brk =>
        obtain ⟨σ6, H6, S6, q6⟩ := hsp
        exact q6.elim
      | cont =>
        obtain ⟨σ6, H6, S6, q6⟩ := hsp
        exact q6.elim
      | ret u =>
        obtain ⟨v6, σ6, H6, S6, r6, q6⟩ := hsp
        exact q6.elim
    | false =>
      show wpAny _ X.A (handleBy (.ref a) X.env []) _ _ _
      refine wpAny_handleBy_nil ?_
      obtain ⟨k1, k2, k3, oe, vs, T, oT, ts', he, hz, hd, h1, hr⟩ := id fl3
      unfold PySem.passOn
      refine wpAny_bind (wpAny_field he hd h1 ?_)
      rw [if_neg (show ¬ ((Value.ref T == Value.none) = true) from by simp)]
      have fin : wpAny (model X.prog X.w) X.A (setFlight (.ref a) X.env.frame) (fun _ s4 => wpAny (model X.prog X.w) X.A (throw (.ref a) : Sem Flow) (SP X pins D) X.xe s4) X.xe { s' with heap := h3 } := by
        rw [hf]
        refine HandSPX.setFlight_upZ fl3 fun h4 hh4 up4 => wpAny_throw (tk _ _ ?_)
        exact ⟨a, B, sI, pins, σ', H', cls, d, rfl, J, nb, (up.trans up3).trans up4, .inr (.inr (by rw [hs]; exact hh4)), na, os, ag, hno rfl⟩
      first
        | exact wpAny_bind (wpAny_pure (wpAny_bind fin))
        | exact wpAny_bind fin
  · cases f with
    | next =>
      obtain ⟨σ', H', J', q⟩ := hsp
      exact wpAny_execs_nil ⟨σ', H', J'.ofTry ok, q⟩
    | brk =>
      obtain ⟨σ', H', J', q⟩ := hsp
      exact ⟨σ', H', J'.ofTry ok, q⟩
    | cont =>
      obtain ⟨σ', H', J', q⟩ := hsp
      exact ⟨σ', H', J'.ofTry ok, q⟩
    | ret u =>
      obtain ⟨v, σ', H', J', r, q⟩ := hsp
      exact ⟨v, σ', H', J'.ofTry ok, r, q⟩
end
end Far

namespace Far
open PySem PySem.Spec PySem.Calls PyProof.Rows L2 PySem.W
section
variable {prog : Program} {w : World} {A : Around} {E : Value → Shared → Prop} {s : Shared} {K : Frag} {x D : Addr} {ox : Obj} {od : Option Obj}
theorem obj_data {C : Addr} {name : Str} {a g : Value} (hc : (clsIn K C).isSome = true) (ha : findIn K (.ref C) name = some (some a)) (hg : specialIn K a "__get__" = some (some g)) (ht : takesIn K a = some true) : findObj K C od name = some (.bind g a) := by
  obtain ⟨cd, hc⟩ := Option.isSome_iff_exists.mp hc
  unfold findObj
  rw [hc, Option.bind_some, ha, Option.bind_some]
  simp [hg, ht]
/-- the class of an own error that has a dict of its own -/
theorem cls_of_own {Q : Option Value → Shared → Prop} (T : ExcC K D) (X : K.In s.heap) (I : InstAt s.heap x ox D od) (h : Q (some (.ref D)) { s with toks := s.toks + 1 }) : wpAny (model prog w) A (getAttr? (.ref x) "__class__") Q E s := by
  have hf : findObj K D od "__class__" = some (.bind (.builtin "getset_descriptor.__get__") (.builtin "object.__class__")) := obj_data (by obtain ⟨cd, hc, _⟩ := any_some T.hd; rw [hc]; rfl) T.ha T.hn T.ht
  obtain ⟨hp, g, d, t, os⟩ := s
  have L0 := I.type (M := model prog w)
  have L1 := looks_findIn (M := model prog w) X T.hg
  have L2 := looks_findIn (M := model prog w) X T.hk
  have L3 := looks_find (M := model prog w) X I hf
  have sub : Looks (model prog w) hp (isInstance (.ref x) (.type "BaseException")) true := L0.andThen (looks_subIn X T.hs)
  have n0 : (false && onTheHeap (Value.builtin "BaseException.__getattribute__")) = false := rfl
  have n2 : (Value.builtin "BaseException.__getattribute__" == Value.builtin "object.__getattribute__") = false := by decide +kernel
  have n1 : (onTheHeap (Value.ref D) && Value.builtin "BaseException.__getattribute__" == Value.builtin "object.__getattribute__") = false := by rw [n2]; rfl
  unfold getAttr? getAttrBy? getAttrBy
  refine wpAny_bind (wpAny_mkText (wpAny_bind (wpAny_attempt (wpAny_holding (wpAny_bind (L0.at (wpAny_bind (L1.at ?_))))))))
  show wpAny _ _ (if (onTheHeap (Value.ref D) && Value.builtin "BaseException.__getattribute__" == Value.builtin "object.__getattribute__") = true then _ else _) _ _ _
  rw [n1, if_neg Bool.false_ne_true]
  unfold getAttrByItsOwn hookBefore
  refine wpAny_bind ?_
  rw [if_pos (show onTheHeap (Value.ref D) = true from rfl)]
  refine L2.at ?_
  refine wpAny_bind (wpAny_attempt (wpAny_holding ?_))
  unfold callGetattribute
  rw [n0, if_neg Bool.false_ne_true]
  unfold boundAndCalled
  rw [PySem.F.excAttr_ValueError.ga.bind (.ref x)]
  refine wpAny_bind (wpAny_pure ?_)
  show wpAny _ _ (call (.builtin "BaseException.__getattribute__") [.ref x, .str "__class__" t]) _ _ _
  refine wpAny_call (codeAny_call_builtin PySem.F.excAttr_ValueError.ga.plain PySem.F.entry_bexc_ga ?_)
  refine @check_slot (model prog w) _ _ ⟨hp, g, d, t + 1, os⟩ "BaseException.__getattribute__" "BaseException" "__getattribute__" (.ref x) [.str "__class__" t] [] _ (by decide +kernel) (by decide +kernel) sub (PySem.F.args_bexc_ga (.ref x) (.str "__class__" t)) ?_
  unfold Builtin.«object.__getattribute__»
  refine wpAny_bind (wpAny_of_eq (a := ((Value.ref x : Value), [Value.str "__class__" t])) (by first | rfl | (simp only [slotArgs]; rfl)) ?_)
  refine wpAny_bind (wpAny_pure (wpAny_bind (L0.at (wpAny_bind (L3.at ?_)))))
  show wpAny _ _ (holding [Value.builtin "object.__class__"] (call (.builtin "getset_descriptor.__get__") [.builtin "object.__class__", .ref x, .ref D]) >>= ret) _ _ _
  refine wpAny_bind (wpAny_holding (wpAny_call (class_get (s := ⟨hp, g, d, t + 1, os⟩) (ox := ox) (od := od) X I T.hm ?_)))
  refine wpAny_pure ?_
  show wpAny _ _ (handedOut (.ref D)) _ _ _
  rw [handedOut_of (v := .ref D) rfl]
  first
    | exact wpAny_pure (wpAny_pure h)
    | exact wpAny_pure h
    | exact wpAny_pure (wpAny_bind (wpAny_pure (wpAny_pure h)))
theorem kitx_own (T : ExcC K D) : KitX K (.ref x) (.ref D) (fun h => InstAt h x ox D od) where
  ty := fun _ _ _ I => I.type
  it := fun _ _ X _ => by
    obtain ⟨cdD, hcD, _⟩ := any_some T.hd
    unfold clsIn at hcD
    split at hcD
    · rename_i c' d' cd' sl' ho
      intro A' Q' E' s' k q
      unfold isType loadHead
      exact wpAny_bind (wpAny_loadPart (k _ _ (X _ _ ho)) (wpAny_pure q))
    · cases hcD
  ne := fun h tp dd its n sl X htp => by
    obtain ⟨cdD, hcD, _⟩ := any_some T.hd
    refine Bool.eq_false_iff.mpr fun q => ?_
    have e : D = tp := Value.ref.inj (beq_iff_eq.mp q)
    subst e
    unfold clsIn at hcD
    split at hcD
    · rename_i c' d' cd' sl' ho
      have z := (X _ _ ho).symm.trans htp
      cases z
    · cases hcD
  ca := fun X I k => cls_of_own T X I k
end
/-- an error that was caught, of the class at D, with its own dict at dd -/
def Caught (H : Hp) (a D dd : Addr) (fs : List (Str × V)) : Prop := H a = some (caughtO a (.ref D) (some dd)) ∧ H dd = some (.xd fs)
theorem Caught.same {H H' : Hp} {a D dd : Addr} {fs : List (Str × V)} (c : Caught H a D dd fs) (s : Same H H') : Caught H' a D dd fs := ⟨s _ _ c.1, s _ _ c.2⟩
section
variable {X : Cx} {pins : List (Addr × Obj)} {σ : L2.St} {H : Hp} {s : Shared}
theorem Caught.inst {a D dd : Addr} {fs : List (Str × V)} (c : Caught H a D dd fs) (I : Inv X pins σ H s) : ∃ (oe od : Obj) (mA : Str → Option Value), InstAt s.heap a oe D (some od) ∧ s.heap.get? dd = some od ∧ (∀ f, RelO (fs.lookup f) (mA f)) ∧ (∀ f, lookIn f od = some (mA f)) := by
  obtain ⟨oe, vs, ha, hz, hd⟩ := caughtO_at I.hok c.1
  have hx : ObjOk X.prog X.w H s.heap dd (.xd fs) := I.hok dd _ c.2
  obtain ⟨mA, hns, hr⟩ := hx
  obtain ⟨od, ho, hl⟩ := lookIn_ns hns
  exact ⟨oe, od, mA, ⟨ha, hz.1, by unfold PySem.W.notCls; rw [hd] <;> rfl, by rw [hz.2]; exact ho⟩, ho, hr, hl⟩
/-- isinstance(e, c), e a caught error that a name holds -/
def rIsC (K : PySem.W.Frag) : List V → Hp → VK → Prop := fun xs H Q => ∃ (a D dd : Addr) (fs : List (Str × V)) (c : V) (cv : Value) (b : Bool), xs = [.ref a, c] ∧ Caught H a D dd fs ∧ ExcC K D ∧ ClsV c cv ∧ PySem.W.kitOne K (.ref D) cv = some b ∧ Q (.bl b) H
theorem call_isC {X : Cx} {K : PySem.W.Frag} (eK : X.K = K := by rfl) : CallR X (.builtin "isinstance") (rIsC K) := by
  subst eK
  intro pins s σ H xs us Q I r h
  obtain ⟨a, D, dd, fs, c, cv, b, rfl, hC, T, k, e, q⟩ := h
  obtain ⟨u1, u2, rfl, r1, r2⟩ := vals2 r
  have e2 := k.eq r2
  subst e2
  cases (show u1 = Value.ref a from r1)
  obtain ⟨oe, od, mA, J, _⟩ := hC.inst I
  exact PySem.W.kia_one (kitx_own T) I.kIn J e (fun z => nomatch z) fun tk => ⟨.bl b, H, I.kept (t' := tk) fun _ _ z => z, rfl, q⟩
/-- e.f, e a caught error that a name holds -/
def tCf (K : PySem.W.Frag) (f : Str) (te : TE) : TE := fun σ H Q => te σ H fun x H1 => ∃ (a D dd : Addr) (fs : List (Str × V)) (v : V), x = .ref a ∧ Caught H1 a D dd fs ∧ XfC K D ∧ PySem.W.findIn K (.ref D) f = some none ∧ fs.lookup f = some v ∧ Q v H1
theorem pe_cf {X : Cx} {e : Expr} {te : TE} {pos : Pos} {n : Str} (he : PE X e te) (hb : attributeBase e n X.env (eval e X.env) = eval e X.env := by rfl) : PE X (.Attribute e n pos) (tCf X.K n te) := by
  refine ⟨fun pins s σ H Q I h => ?_⟩
  refine attr_of hb (thn (he.run pins s σ H _ I h) fun u s1 hh => ?_)
  obtain ⟨x, H1, I1, rx, a, D, dd, fs, v, ex, hC, T, hno, l, q⟩ := hh
  subst ex
  obtain rfl : u = Value.ref a := rx
  obtain ⟨oe, od, mA, J, ho, hr, hl⟩ := hC.inst I1
  obtain ⟨u, hu, ru⟩ := RelO.some_of (v := v) (o := mA n) (by rw [← l]; exact hr n)
  exact HandSPX.exc_get I1.kIn J T.ga T.gg T.exC (PySem.W.findObj_own T.hdC hno rfl (by rw [hl, hu])) (handed_of ru) ⟨v, H1, I1.tok _, ru, q⟩
end
end Far

namespace Far
open PySem PySem.Spec PyProof.Rows L2
open C8 (pss_cut tCut)
open SX (S)
/-- what the written part says of NoPlace (at C), of its __init__ (at fI) and of FarError (at CF) -/
structure NpC (K : PySem.W.Frag) (mg : Str → Option Value) (C fI CF : Addr) : Prop where
  oex : OexC K C
  iC : PySem.W.findIn K (.ref C) "__init__" = some (some (.ref fI))
  tI : PySem.W.typeIn K (.ref fI) = some (.type "function")
  xf : XfC K C
  exc : ExcC K C
  no : PySem.W.findIn K (.ref C) "name" = some none
  gC : mg "NoPlace" = some (.ref C)
  gF : mg "FarError" = some (.ref CF)
  rd : PySem.W.readsIn K CF (.type "type") = true
  ga : PySem.W.specialIn K (.ref CF) "__getattribute__" = some (some (.builtin "type.__getattribute__"))
  vF : PySem.W.findCls K (.ref CF) (.type "type") "__init__" = some (.val (.builtin "ValueError.__init__"))
def clsBody (s : Stmt) : List Stmt := match s with
  | .ClassDef _ _ _ b _ _ _ _ _ _ _ => b
  | _ => []
abbrev s_np_init : Stmt := (clsBody (topS 5)).getD 0 (.Pass ⟨0, 0, 0, 0⟩)
abbrev N_np_init : List Str := ["self", "name"]
theorem sc_np_init : FnScope N_np_init ["self", "name"] (defScope s_np_init) := ⟨rfl, rfl, rfl, by decide +kernel, rfl, by decide +kernel, by decide +kernel⟩
section
variable {P : Program} {w : World} {K : PySem.W.Frag} {mg : Str → Option Value} {base : Heap} {C fI CF : Addr}
def spInit (K : PySem.W.Frag) (C : Addr) : Sp := fun vs H Q _ => ∃ (a : Addr) (nm : Str), vs = [.ref a, .str nm] ∧ nm.length ≤ 1000 ∧ H a = some (exo a C none) ∧ ∀ d : Addr, H d = none → d ≠ a → Q .non (upd (upd H d (exd d [("name", .str nm)])) a (exo a C (some d)))
theorem ok_np_init (T : NpC K mg C fI CF) {fd : FuncData} (F : Fun K "__init__" "NoPlace.__init__" s_np_init fI fd) : FnOk P w K mg base (L2.CX P w) 1 fI fd ["self", "name"] (spInit K C) := by
  refine F.okX sc_np_init (fun vs H Q E h => ?_) (fun cdv A outer s H vs Q E hr h => ?_)
  · obtain ⟨a, nm, rfl, _⟩ := h
    rfl
  · obtain ⟨a, nm, rfl, hl, ha, q⟩ := h
    refine ⟨_, (pss_cons (ps_expr (pe_owninit (by rfl) T.gF T.rd T.ga T.vF (pa_cons (pv 0) (pa_cons (pe_joined (.cons (pe_fmt (pv 1)) (.cons pe_str .nil))) pa_nil)))) (pss_one (ps_ost (pv 0) (pv 1)))), ?_⟩
    refine ⟨_, rfl, _, rfl, .inl ⟨nm, rfl, Nat.le_trans hl (by decide), ?_⟩⟩
    have l1 : (Str.empty ++ nm).length ≤ 1000 := by
      rw [PySem.Str.length_append]
      show 0 + nm.length ≤ 1000
      omega
    refine ⟨nm, rfl, Nat.le_trans l1 (by decide), _, rfl, ?_, ?_⟩
    · rw [PySem.Str.length_append]
      have : (Str.ofString " is no place").length = 12 := by decide +kernel
      exact Nat.le_trans (Nat.add_le_add l1 (Nat.le_of_eq this)) (by decide)
    · refine ⟨a, C, _, rfl, (by show 1 ≤ 1000; decide), T.oex, ha, ?_⟩
      exact ⟨_, rfl, _, rfl, a, C, rfl, T.oex, T.no, .inl ⟨ha, fun d nd de => q d nd de⟩⟩
end
/-- a def that may raise, by its promise -/
structure CalX (P : Program) (w : World) (K : PySem.W.Frag) (mg : Str → Option Value) (base : Heap) (k : Nat) (x : Str) (sp : Sp) : Prop where
  ex : ∃ (f : Addr) (fd : FuncData) (ps : List Str), FnOk P w K mg base (L2.CX P w) k f fd ps sp ∧ mg x = some (.ref f) ∧ PySem.W.keepIn K (.ref f) = true ∧ Binds K fd ps []
theorem pe_cX {X : Cx} {W : WX} {k j : Nat} {x : Str} {sp : Sp} {p pos : Pos} {e : Expr} {es : List Expr} {t : TA} (tk : Takes X W) (c : CalX X.prog X.w X.K X.mg X.base k x sp) (hr : Room j X.A) (hk : k ≤ j) (hg : Gl X x) (ha : PA X (e :: es) t)
    (hdb : (x == ("__debug__" : Str)) = false := by decide) (he : starEach (e :: es) X.env = (false, eval e X.env) :: starEach es X.env := by rfl) (hpl : (backTo pos (starEach es X.env)).any (·.1) = false := by rfl) :
    PE X (.Call (.Name x p) (e :: es) [] pos) (tCallS sp (WE W) t) := by
  obtain ⟨f, fd, ps, F, hm, kp, b⟩ := c.ex
  exact pe_callS F (hr.mono hk) hg hm kp b (fun σ => passAt tk σ) ha hdb he hpl
end Far

namespace Far
open PySem PySem.Spec PyProof.Rows L2
open C8 (pss_cut tCut)
open SX (S)
/-- what the written part says of NoJoin (at J) -/
structure NjC (K : PySem.W.Frag) (mg : Str → Option Value) (J : Addr) : Prop where
  ex : PySem.W.excIn K J [.type "ValueError", .type "Exception", .type "BaseException", .type "object"] "ValueError.__new__" = true
  gC : mg "NoJoin" = some (.ref J)
  kC : PySem.W.keepIn K (.ref J) = true
  sub : PySem.W.subIn K (.ref J) (.type "BaseException") = some true
  ty : PySem.W.typeIn K (.ref J) = some (.type "type")
abbrev s_check_unlike : Stmt := topS 16
abbrev N_check_unlike : List Str := ["one", "other", "name"]
theorem sc_check_unlike : FnScope N_check_unlike ["one", "other"] (defScope s_check_unlike) := ⟨rfl, rfl, rfl, by decide +kernel, rfl, by decide +kernel, by decide +kernel⟩
section
variable {P : Program} {w : World} {K : PySem.W.Frag} {mg : Str → Option Value} {base : Heap} {J : Addr}
def spUnlikeX (J : Addr) : Sp := fun vs H Q E => ∃ (v v' : V) (pl pl' : List Nm) (ts ts' : List Tie), vs = [v, v'] ∧ Dt H v (treeD pl ts) ∧ Dt H v' (treeD pl' ts') ∧ (∀ x ∈ pl, NameOk x) ∧ ((∀ x ∈ pl, x ∉ pl') → Q .non H) ∧
  ((∃ x ∈ pl, x ∈ pl') → ∀ H' : Hp, Same H H' → E (.ref J) none H')
theorem ok_check_unlike {f : Addr} {fd : FuncData} (T : NjC K mg J) (F : Fun K "_check_unlike" "_check_unlike" s_check_unlike f fd) : FnOk P w K mg base (L2.CX P w) 1 f fd ["one", "other"] (spUnlikeX J) := by
  refine F.okX sc_check_unlike (fun vs H Q E h => ?_) (fun cdv A outer s H vs Q E hr h => ?_)
  · obtain ⟨v, v', pl, pl', ts, ts', rfl, _⟩ := h
    rfl
  · obtain ⟨v, v', pl, pl', ts, ts', rfl, hd, hd', ok, q, qE⟩ := h
    obtain ⟨t, a, b, rfl, ht, ha⟩ := pl0_of hd
    obtain ⟨t', a', b', rfl, ht', ha'⟩ := pl0_of hd'
    refine ⟨_, (pss_one (ps_for (passes_of rfl) rfl (pi_tup (pe_ix ix_tup (pv 0) pe_int (fun _ _ => rfl))) (pg_name (i := 2) sc_check_unlike.nd rfl (.inl rfl))
        (pss_one (ps_if (pt_cmpR op_in_seq (pv 2) (pe_ix ix_tup (pv 1) pe_int (fun _ _ => rfl)) rfl)
          (pss_one (ps_raise rfl (takes_of rfl rfl rfl rfl) (SkE.pmk_own1 PySem.F.excBase_ValueError T.ex T.gC T.kC (raises_own T.sub T.ty) (by rfl) (pe_joined (.cons (pe_fmt (pv 2)) (.cons pe_str .nil))))))
          pss_nil)))), ?_⟩
    have all : ∀ {ls pre post : List Nm} {l : Nm}, True := fun {_ _ _ _} => trivial
    refine ⟨_, rfl, t, _, 0, .ref a, rfl, rfl, SqT.of ht, atI_nat (j := 0) rfl, a, rfl, ⟨_, ha.sq⟩, for_tup (K := K) (a := a) (xs := (pl.map S).map V.str) (fun i σ' H' => (∃ x2, σ' = [some (.ref t), some (.ref t'), x2]) ∧ H' = H ∧ ∀ x ∈ pl.take i, x ∉ pl') ⟨⟨_, rfl⟩, rfl, fun x hx => by cases hx⟩ (fun i σ' H' _ hP => hP.2.1 ▸ ha.sq) (fun i x σ' H' hi hP => ?_) (fun σ' H' hP => ?_)⟩
    · obtain ⟨⟨x2, rfl⟩, rfl, hin⟩ := hP
      rw [List.getElem?_map, List.getElem?_map] at hi
      cases el : pl[i]? with
      | none =>
        rw [el] at hi
        cases hi
      | some l =>
        rw [el] at hi
        have ex : x = .str (S l) := (Option.some.inj hi).symm
        subst ex
        refine ⟨_, rfl, _, rfl, t', _, 0, .ref a', rfl, rfl, SqT.of ht', atI_nat (j := 0) rfl, a', _, rfl, .inr ha'.sq, rfl, flat_strs pl', _, rfl, ?_⟩
        rw [inV_strs]
        by_cases c : l ∈ pl'
        · rw [decide_eq_true c]
          refine iteT ?_
          have sl : (S l).length ≤ 1000 := by
            have := ok l (List.mem_of_getElem? el)
            rw [SX.S_len]
            exact Nat.le_trans this.2.1 (by decide)
          refine ⟨_, rfl, .inl ⟨S l, rfl, Nat.le_trans sl (by decide), ?_⟩⟩
          have l1 : (Str.empty ++ S l).length ≤ 1000 := by
            rw [PySem.Str.length_append]
            show 0 + (S l).length ≤ 1000
            omega
          refine ⟨S l, rfl, Nat.le_trans l1 (by decide), _, rfl, ?_, ?_⟩
          · rw [PySem.Str.length_append]
            have : (Str.ofString " is in both trees").length = 17 := by decide +kernel
            exact Nat.le_trans (Nat.add_le_add l1 (Nat.le_of_eq this)) (by decide)
          · exact qE ⟨l, List.mem_of_getElem? el, c⟩ _ (Same.refl _)
        · rw [decide_eq_false c]
          refine iteF ⟨⟨_, rfl⟩, rfl, fun y hy => ?_⟩
          rw [List.take_add_one, el] at hy
          rcases List.mem_append.mp hy with h | h
          · exact hin y h
          · have : y = l := by simpa using h
            rw [this]
            exact c
    · obtain ⟨⟨x2, rfl⟩, rfl, hin⟩ := hP
      rw [List.length_map, List.length_map, List.take_length] at hin
      exact q hin
end
theorem cat_any {K : PySem.W.Frag} {H : Hp} {a b : Addr} {xs ys : List V} {Q : VK} (ha : TupAt H a xs) (hb : TupAt H b ys) (l : xs.length + ys.length ≤ sizeLine) (k : ∀ p H', Same H H' → TupAt H' p (xs ++ ys) → Q (.ref p) H') : rCatA K (.ref a) (.ref b) H Q :=
  ⟨a, b, xs, ys, rfl, rfl, ha.sq, hb.sq, l, fun e => k b H (Same.refl _) (by rw [e]; exact hb), fun _ e => k a H (Same.refl _) (by rw [e, List.append_nil]; exact ha), fun _ _ p n => k p _ (same_new (Same.refl _) n) (.inl upd_same)⟩
theorem cat_any0 {K : PySem.W.Frag} {H : Hp} {a b : Addr} {xs ys : List V} {Q : VK} (ha : H a = some (.tup xs)) (hb : H b = some (.tup ys)) (l : xs.length + ys.length ≤ sizeLine) (k : ∀ p H', Same H H' → H' p = some (.tup (xs ++ ys)) → Q (.ref p) H') : rCatA K (.ref a) (.ref b) H Q :=
  ⟨a, b, xs, ys, rfl, rfl, SqT.of ha, SqT.of hb, l, fun e => k b H (Same.refl _) (by rw [e]; exact hb), fun _ e => k a H (Same.refl _) (by rw [e, List.append_nil]; exact ha), fun _ _ p n => k p _ (same_new (Same.refl _) n) upd_same⟩
theorem names_dt {H : Hp} {q : Addr} {ls : List Nm} (h : TupAt H q ((ls.map S).map V.str)) (ne : ls ≠ []) : Dt H (.ref q) (.tuple (ls.map strD)) := h.elim (fun h => .tup h (dt_strs H ls)) fun ⟨o, d, h⟩ => .tupZ rfl ne d h
end Far

namespace Far
open PySem PySem.Spec PyProof.Rows L2
open C8 (pss_cut tCut)
open SX (S)
abbrev Tri := Int × Nm × Nm
def triD (x : Tri) : PyData := .tuple [.int x.1, .str (S x.2.1), .str (S x.2.2)]
/-- the pairs of place i with those behind it -/
noncomputable def rowP (pl : List Nm) (ts : List Tie) (i : Nat) : List Tri := (pl.drop (i + 1)).map fun y => (dist ts (pl.getD i []) y, pl.getD i [], y)
/-- those of the first n places -/
noncomputable def prs (pl : List Nm) (ts : List Tie) (n : Nat) : List Tri := (List.range n).flatMap (rowP pl ts)
/-- all pairs of two places, in order -/
noncomputable def pairsOf (pl : List Nm) (ts : List Tie) : List Tri := prs pl ts pl.length
theorem prs_succ (pl : List Nm) (ts : List Tie) (n : Nat) : prs pl ts (n + 1) = prs pl ts n ++ rowP pl ts n := by
  unfold prs
  rw [List.range_succ, List.flatMap_append, List.flatMap_singleton]
theorem rowP_len (pl : List Nm) (ts : List Tie) (i : Nat) : (rowP pl ts i).length = pl.length - (i + 1) := by
  unfold rowP
  rw [List.length_map, List.length_drop]
theorem prs_len (pl : List Nm) (ts : List Tie) : ∀ n, (prs pl ts n).length ≤ n * pl.length
  | 0 => Nat.zero_le _
  | n + 1 => by
    have ih := prs_len pl ts n
    rw [prs_succ, List.length_append, rowP_len, Nat.succ_mul]
    omega
theorem rowP_at {pl : List Nm} {ts : List Tie} {i j : Nat} {x y : Nm} (hx : pl[i]? = some x) (hy : pl[i + 1 + j]? = some y) : (rowP pl ts i)[j]? = some (dist ts x y, x, y) := by
  have ex : pl.getD i [] = x := by
    show (pl[i]?).getD [] = x
    rw [hx]
    rfl
  unfold rowP
  rw [ex, List.getElem?_map, List.getElem?_drop, hy]
  rfl
end Far

namespace Far
open PySem PySem.Spec PyProof.Rows L2
/-! ### a lambda of one parameter, as the key of sorted -/
section
variable {prog : Program} {w : World} {A : Around} {E : Value → Shared → Prop} {s : Shared}
/-- v is a tuple whose first item is the whole number i -/
def Fst (h : Heap) (v : Value) (i : Int) : Prop := ∃ (t : Addr) (its : List Value) (tk : Tok), v = .ref t ∧ IsTup h t its.toArray ∧ its[0]? = some (.int i tk)
theorem Fst.keep {h h' : Heap} {v : Value} {i : Int} (f : Fst h v i) (k : ∀ b o, h.get? b = some o → h'.get? b = some o) : Fst h' v i := by
  obtain ⟨t, its, tk, e, ⟨o, ho, r⟩, hi⟩ := f
  exact ⟨t, its, tk, e, ⟨o, k _ _ ho, r⟩, hi⟩
/-- what a body gives at a tuple that begins with i -/
def KeyBody (prog : Program) (w : World) (x : Str) (body : Expr) (g : Int → Int) : Prop :=
  ∀ (A : Around) (env : Env) (s : Shared) (m : Str → Option Value) (v : Value) (i : Int) (Q : Value → Shared → Prop) (E : Value → Shared → Prop), env.scope.kind = .function → env.kindOf x = some .local → s.heap.Ns env.locals m → m x = some v → Fst s.heap v i →
    (∀ t tk, Q (.int (g i) t) { s with toks := tk }) → wpAny (model prog w) A (eval body env) Q E s
theorem body_fst {x : Str} {p1 p2 p3 : Pos} {j : Nat} (hd : (x == ("__debug__" : Str)) = false := by decide) (hs : PlainIx (.Constant (.int 0) j p2) := by exact fun _ _ => rfl) :
    KeyBody prog w x (.Subscript (.Name x p1) (.Constant (.int 0) j p2) p3) id := by
  intro A env s m v i Q E hk hl hn hm f h
  obtain ⟨t, its, tk, rfl, pl, hi⟩ := f
  refine Subscript_ (wpAny_Name (wpAny_loadName_local hk hl hn hm ?_) hd)
  refine wpAny_Constant_int ?_
  have hlt : 0 < its.length := (List.getElem?_eq_some_iff.mp hi).1
  refine subscriptTail_builtinR (x := .int i tk) (show IsTup _ t its.toArray from pl).typeIs slot_tuple_getitem.lookup
    (getItem_tuple (j := 0) (Q := fun r s' => r = Value.int i tk ∧ Q r s') (show IsTup _ t its.toArray from pl) (by decide) (by decide) ?_ (by simpa using hi) ⟨rfl, h _ _⟩) (hs _ _)
  exact seqIndex_of (by decide) (by rw [List.size_toArray]; omega)
theorem body_neg {x : Str} {p1 p2 p3 p4 : Pos} {j : Nat} (hd : (x == ("__debug__" : Str)) = false := by decide) (hs : PlainIx (.Constant (.int 0) j p2) := by exact fun _ _ => rfl) :
    KeyBody prog w x (.UnaryOp .USub (.Subscript (.Name x p1) (.Constant (.int 0) j p2) p3) p4) (fun i => -i) := by
  intro A env s m v i Q E hk hl hn hm f h
  refine UnaryOp_ (body_fst hd hs A env s m v i _ E hk hl hn hm f fun t tk => ?_)
  exact neg_int (h _ _)
/-- the lambda's scope: its one parameter is its one name -/
structure LamP (x : Str) (sc : Scope) : Prop where
  kind : sc.kind = .function
  co : sc.isCoroutine = false
  gen : sc.isGenerator = false
  cell : ∀ y ∈ sc.names, y.2 ≠ .cell
  free : ∀ y ∈ sc.names, y.2 ≠ .free
  loc : sc.names.lookup x = some .local
theorem lam_turn {f c' : Addr} {q x : Str} {params : Arguments} {body : Expr} {scope : Scope} {cl : List (Str × Addr)} {pm ctv v : Value} {g : Int → Int} {i : Int} (hroom : A.depth < recursionLimit)
    (ho : s.heap.get? f = some (PySem.W.kla_obj "<lambda>" q params body scope cl pm c' ctv)) (hcd : s.heap.CodeRec (.ref c') q)
    (hbind : bindArgs (PySem.W.kla_fn "<lambda>" q params body scope cl pm (.ref c') ctv) ⟨[v], []⟩ = pure [(x, v)]) (L : LamP x scope) (lim : s.heap.NoLimit) (B : KeyBody prog w x body g) (hf : Fst s.heap v i) :
    wpAny (model prog w) A (call (.ref f) [v]) (PySem.W.KeyPure (.int (g i)) s) (fun _ _ => False) s := by
  have rc : codeAny (model prog w) A (.call (.ref f) ⟨[v], []⟩) (fun r s' => ∃ u, r = .ok (.ret u) ∧ PySem.W.KeyPure (.int (g i)) s u s') s := by
    refine PySem.W.kla_callFunE hroom ho rfl L.co L.gen rfl hcd ?_
    rw [hbind]
    refine wpAny_pure (wpAny_newFunctionEnv L.cell (fun y hy => by rcases List.mem_singleton.mp hy with rfl; exact L.loc) (fun h₁ hns hsb => ⟨lim.fresh _ hsb, ?_⟩) L.kind)
    have kp : ∀ b o, s.heap.get? b = some o → h₁.get? b = some o := fun b o e => hsb.extBut b o (Nat.ne_of_lt (Heap.lt_size e)) (Heap.get?_push_of_some _ e)
    refine PySem.W.kla_codeExpr (B _ _ _ _ v i _ _ L.kind L.loc hns (by simp) (hf.keep kp) fun t tk => ?_)
    exact ⟨_, rfl, _, _, rfl, kp, .int _ _⟩
  refine wpAny_call (codeAny_mono rc fun r s' hq => ?_)
  obtain ⟨u, rfl, hq⟩ := hq
  exact hq
end
open LamX in
/-- what a built-in with key= asks of the state, the lambda made -/
def CallRL (X : Cx) (id : String) (q : Str) (params : Arguments) (body : Expr) (scope : Scope) (r : List V → Hp → VK → Prop) : Prop :=
  ∀ (pins : List (Addr × Obj)) (s : Shared) (σ : L2.St) (H : Hp) (xs : List V) (us : List Value) (f c' : Addr) (cl : List (Str × Addr)) (pm ctv : Value) (Q : VK), Inv X pins σ H s → Vals xs us → H c' = some (CodeO c' q) →
    s.heap.get? f = some (PySem.W.kla_obj "<lambda>" q params body scope cl pm c' ctv) → r xs H Q → wpAny (model X.prog X.w) X.A (call (.builtin id) us [(Str.ofString "key", .ref f)]) (EP X pins σ Q) X.xe s
open LamX in
def tLamR (T : List (Addr × Str)) (r : List V → Hp → VK → Prop) (t : TA) : TE := fun σ H Q => t σ H fun vs H1 => Tabs T H1 ∧ ∀ H2, ExtN H1 H2 → Tabs T H2 → r vs H2 Q
section
open LamX
variable {X : Cx} {x : Str} {p pos lpos kpos : Pos} {e : Expr} {es : List Expr} {t : TA} {id : String} {r : List V → Hp → VK → Prop} {params : Arguments} {body : Expr} {scope : Scope} {T : List (Addr × Str)} {c P : Addr}
theorem pe_callL (TB : TabB X.base X.mg c P) (hcode : X.env.code = .ref c) (hmT : (P, X.env.qual ++ "<lambda>") ∈ T) (hu : ∀ p ∈ T, p.1 = P → p.2 = X.env.qual ++ "<lambda>") (hc : CallRL X id (X.env.qual ++ "<lambda>") params body scope r)
    (hg : Gl X x) (hm : X.mg x = none) (hv : bootBuiltins x = some (.builtin id)) (ha : PA X (e :: es) t) (hdef : defaultsOf params X.env = ([], [])) (hfree : ∀ y ∈ scope.names, y.2 ≠ .free)
    (hn : x ≠ "__name__" := by decide) (hdb : (x == ("__debug__" : Str)) = false := by decide)
    (he : backTo pos (starEach (e :: es) X.env) = (false, eval e X.env) :: backTo pos (starEach es X.env) := by rfl) (hpl : (backTo pos (starEach (e :: es) X.env)).any (·.1) = false := by rfl) :
    PE X (.Call (.Name x p) (e :: es) [⟨some "key", .Lambda params body scope lpos, kpos⟩] pos) (tLamR T r t) := by
  refine ⟨fun pins s σ H Q I h => ?_⟩
  refine wpAny_Call_Name_kw (ld_blt I hg hm hv ?_ hn hdb)
  refine PyProof.Rows.callWith_kw (thn (ha.run pos pins s σ H _ I h) fun us s1 ⟨vs, H1, I1, r1, hT, q1⟩ => ?_) he hpl rfl rfl
  show wpAny _ _ (evalAll [(do let v ← eval (.Lambda params body scope lpos) X.env; standAt pos; pure v)]) _ _ s1
  refine wpAny_evalAll_cons (wpAny_bind (lam_make2 I1 TB hcode hmT hu hT hdef (fun y hy z => absurd z (hfree y hy)) fun f c' pm ctv H2 s2 I2 eN T2 hf hfn hfr hco => ?_))
  refine wpAny_bind (wpAny_standAt (wpAny_pure (wpAny_evalAll_nil ?_)))
  exact hc pins s2 σ H2 vs us f c' _ pm ctv Q I2 r1 hco hf (q1 H2 eN T2)
def rSortKey (K : PySem.W.Frag) (g : Int → Int) : List V → Hp → VK → Prop := fun vs H Q => ∃ (a : Addr) (xs : List V) (k : V → Int), vs = [V.ref a] ∧ SqL K H a xs ∧ (∀ y ∈ xs, ∃ t zs, y = V.ref t ∧ H t = some (.tup (.int (k y) :: zs))) ∧
  ∀ p, H p = none → Q (.ref p) (upd H p (.lst (xs.mergeSort fun y z => decide (g (k y) ≤ g (k z)))))
theorem each_refl {α : Type} : ∀ l : List α, PySem.W.EachIs (fun u x => u = x) l l
  | [] => .nil
  | _ :: l => .cons rfl (each_refl l)
theorem each_eq {α : Type} {l m : List α} (h : PySem.W.EachIs (fun u x => u = x) l m) : l = m := by
  induction h with
  | nil => rfl
  | cons e _ ih => rw [e, ih]
theorem cr_sortedLam {q y : Str} {g : Int → Int} (hr : Room 1 X.A) (L : LamP y scope) (B : KeyBody X.prog X.w y body g)
    (hbind : ∀ (cl : List (Str × Addr)) (pm ctv v : Value) (c' : Addr), bindArgs (PySem.W.kla_fn "<lambda>" q params body scope cl pm (.ref c') ctv) ⟨[v], []⟩ = pure [(y, v)]) :
    CallRL X "sorted" q params body scope (rSortKey X.K g) := by
  intro pins s σ H vs us f c' cl pm ctv Q I r hco hf h
  obtain ⟨a, xs, k, rfl, hs, hx, q⟩ := h
  obtain ⟨its, rv, hl, hz⟩ := I.list hs
  obtain rfl := Vals.ref1 r
  obtain ⟨e1, e2⟩ := refs_back rv fun x m => by
    obtain ⟨t, _, e, _⟩ := hx x m
    exact ⟨t, e⟩
  have hlen : its.length ≤ sizeLine := by rw [← rv.length]; exact hz
  obtain ⟨⟨oc, cvs, ct, hoc, hdc, hvc⟩, _, _⟩ := I.hok c' _ hco
  have fst : ∀ v ∈ its, Fst s.heap v (k (backV v)) := fun v hv => by
    obtain ⟨t, rfl⟩ := e2 v hv
    have hm : V.ref t ∈ xs := by rw [e1]; exact List.mem_map.mpr ⟨_, hv, rfl⟩
    obtain ⟨t', zs, e, ht⟩ := hx _ hm
    cases e
    obtain ⟨_, its2, r2, ht2⟩ := I.hok _ _ ht
    cases r2 with
    | cons r0 r1 =>
      obtain ⟨tk, rfl⟩ := r0
      exact ⟨t, _, tk, rfl, ht2, rfl⟩
  refine PySem.W.sorted_key_data (β := Value) (bs := its) (R := fun u x => u = x) (b := false) (fun u => PyData.int (g (k (backV u)))) hl.isList (each_refl its) ?_ ?_ hlen (fun x _ => ?_) (PyProof.Rows.ksk_s1 _ _) (fun _ => PyProof.Rows.ksk_l1 _ _) (fun x => PyProof.Rows.ksk_t1 _ _) (fun v x e hx h tk kp => ?_) fun out c h' tk kp hn hd hlo hE => ?_
  · intro d hd d' hd'
    obtain ⟨u, _, rfl⟩ := List.mem_map.mp hd
    obtain ⟨u', _, rfl⟩ := List.mem_map.mp hd'
    rfl
  · refine .inr fun d hd => ?_
    obtain ⟨u, _, rfl⟩ := List.mem_map.mp hd
    exact ⟨(by intro z; cases z), fun xs z => by cases z⟩
  · have := hr.un
    show X.A.units + 2 + 0 < cLine
    omega
  · subst e
    refine lam_turn (s := { s with heap := h, toks := tk }) ?_ (kp _ _ hf) ⟨c', oc, cvs, ct, rfl, kp _ _ hoc, hdc, hvc⟩ (hbind _ _ _ _ _) L (I.nolimit.keeps kp) B ((fst _ hx).keep kp)
    have := hr.dp
    show X.A.depth < _
    omega
  · have e3 : out = its.mergeSort (fun u u' => decide (g (k (backV u)) ≤ g (k (backV u')))) := by
      rw [each_eq hE]
      rw [PySem.W.dataLe_int (fun u : Value => g (k (backV u)))]
    have e4 : out.map backV = xs.mergeSort fun y z => decide (g (k y) ≤ g (k z)) := by
      rw [e3, e1, List.map_mergeSort]
      intro a _ b _
      rfl
    have hr2 : ∀ u ∈ out, ∃ a, u = Value.ref a := fun u hu => by
      rw [e3] at hu
      exact e2 u (List.mem_mergeSort.mp hu)
    have I2 := I.laid (t' := tk) (o := .lst (out.map backV)) kp (Nat.le_succ _) ⟨by rw [List.length_map, hlo]; exact hlen, out, c, vals_back hr2, hd⟩
    rw [e4] at I2
    exact ⟨.ref _, _, I2, rfl, q _ (I.hok.fresh (Nat.le_succ _))⟩
end
end Far

namespace Far
open PySem PySem.Spec PyProof.Rows L2
/-! ### a lambda of one parameter, as the key of min and max -/
theorem first_least (num : Nat → Int) : ∀ k, argBest (fun i j => decide (num i < num j)) k ≤ k ∧ (∀ j, j ≤ k → num (argBest (fun i j => decide (num i < num j)) k) ≤ num j) ∧ ∀ j, j < argBest (fun i j => decide (num i < num j)) k → num (argBest (fun i j => decide (num i < num j)) k) < num j
  | 0 => ⟨Nat.le_refl _, fun j hj => by
      have : j = 0 := by omega
      subst this
      exact Int.le_refl _, fun j hj => absurd hj (Nat.not_lt_zero _)⟩
  | k + 1 => by
    obtain ⟨h1, h2, h3⟩ := first_least num k
    simp only [argBest]
    by_cases c : num (k + 1) < num (argBest (fun i j => decide (num i < num j)) k)
    · rw [if_pos (decide_eq_true c)]
      refine ⟨Nat.le_refl _, fun j hj => ?_, fun j hj => ?_⟩
      · by_cases e : j = k + 1
        · rw [e]
          exact Int.le_refl _
        · have := h2 j (by omega)
          omega
      · have := h2 j (by omega)
        omega
    · rw [if_neg (fun z => c (of_decide_eq_true z))]
      refine ⟨by omega, fun j hj => ?_, h3⟩
      by_cases e : j = k + 1
      · rw [e]
        omega
      · exact h2 j (by omega)
theorem best_neg (num : Nat → Int) : ∀ k, argBest (fun i j => decide (num i > num j)) k = argBest (fun i j => decide (-(num i) < -(num j))) k
  | 0 => rfl
  | k + 1 => by
    simp only [argBest]
    rw [best_neg num k]
    congr 1
    rw [decide_eq_decide.mpr (show num (k + 1) > num (argBest (fun i j => decide (-(num i) < -(num j))) k) ↔ -(num (k + 1)) < -(num (argBest (fun i j => decide (-(num i) < -(num j))) k)) by omega)]
/-- the first of the items with the least key -/
def FirstLeast (xs : List V) (k : V → Int) (y : V) : Prop := ∃ i : Nat, xs[i]? = some y ∧ (∀ (j : Nat) (z : V), xs[j]? = some z → k y ≤ k z) ∧ ∀ (j : Nat) (z : V), j < i → xs[j]? = some z → k y < k z
def rBestKey (K : PySem.W.Frag) (h : Int → Int) : List V → Hp → VK → Prop := fun vs H Q => ∃ (a : Addr) (xs : List V) (k : V → Int), vs = [V.ref a] ∧ SqL K H a xs ∧ 0 < xs.length ∧ (∀ y ∈ xs, ∃ t zs, y = V.ref t ∧ H t = some (.tup (.int (k y) :: zs))) ∧ ∀ y, FirstLeast xs (fun z => h (k z)) y → Q y H
section
open LamX
variable {X : Cx} {params : Arguments} {body : Expr} {scope : Scope}
/-- what min and max share -/
structure Keyed (X : Cx) (s : Shared) (q : Str) (body : Expr) (scope : Scope) (f : Addr) (its : List Value) (kk : Nat → Int) : Prop where
  turn : ∀ (A : Around) (i : Nat) (v : Value) (h : Heap) (tk : Nat), A.depth < recursionLimit → its[i]? = some v → (∀ b o, s.heap.get? b = some o → h.get? b = some o) → wpAny (model X.prog X.w) A (call (.ref f) [v]) (PySem.W.KeyPure (.int (kk i)) { s with heap := h, toks := tk }) (fun _ _ => False) { s with heap := h, toks := tk }
theorem keyrun {s : Shared} {q : Str} {f a : Addr} {its : List Value} {kk : Nat → Int} {A : Around} {op : CmpOp} {bt : Nat → Nat → Bool} (Kd : Keyed X s q body scope f its kk) (ha : a < s.heap.objs.size) (hA : A.depth < recursionLimit)
    (cmp : ∀ i j ki kj (s : Shared) (Q : Value → Shared → Prop) (E : Value → Shared → Prop), (∃ t, ki = .int (kk i) t) → (∃ t, kj = .int (kk j) t) → Q (.bool (bt i j)) s → wpAny (model X.prog X.w) A (richCompare op ki kj) Q E s) :
    KeyRun X.prog X.w A (.ref f) op (s.heap.objs.size + 1) [s.heap.objs.size] (fun a b => b = a) its.toArray.size (fun i v => its.toArray[i]? = some v) (fun i s' => s'.heap.IsListIter s.heap.objs.size a i ∧ s'.heap.IsList a its.toArray)
      (fun s' => ∃ h' tk, s' = { s with heap := h', toks := tk } ∧ ∀ b o, s.heap.get? b = some o → h'.get? b = some o) (fun i k _ => ∃ t, k = Value.int (kk i) t) bt where
  keep := fun s1 s2 ⟨h', tk, e, kp⟩ m => by
    subst e
    have e2 : s2 = { s with heap := s2.heap, toks := s2.toks } := by
      obtain ⟨h2, g2, d2, t2, o2⟩ := s2
      have m1 : g2 = s.gens := m.gens
      have m2 : d2 = s.drawn := m.drawn
      have m3 : o2 = s.os := m.os
      subst m1 m2 m3
      rfl
    refine ⟨s2.heap, s2.toks, e2, fun b o hb => m.heap b o (fun z => ?_) (kp b o hb)⟩
    have hlt := Heap.lt_size hb
    rcases List.mem_cons.mp z with z | z
    · rw [z] at hlt
      exact absurd hlt (Nat.not_lt.mpr (Nat.le_succ _))
    · rw [List.mem_singleton.mp z] at hlt
      exact Nat.lt_irrefl _ hlt
  keepV := fun i k s1 s2 h _ => h
  turn := fun i v s1 o Q E hi hP ⟨h', tk, e, kp⟩ st hS hQ => by
    subst e
    refine wpAny_mono (Kd.turn A i v h' tk hA (by simpa using hP) kp) (fun u s3 hk => ?_) (fun _ _ z => z.elim)
    obtain ⟨h3, tk3, rfl, kp3, hr⟩ := hk
    cases hr
    exact hQ _ _ ⟨h3, tk3, rfl, fun b o hb => kp3 _ _ (kp _ _ hb)⟩ ⟨st.1.at fun o e => kp3 _ _ e, st.2.at fun o e => kp3 _ _ e⟩ (kp3 _ _ hS) ⟨_, rfl⟩ fun _ _ h => h
  cmp := fun i j ki kj s1 Q E _ h1 h2 h => cmp i j ki kj s1 Q E h1 h2 h
/-- the lambda's keys of a list of tuples that begin with whole numbers -/
theorem keyed {pins : List (Addr × Obj)} {s : Shared} {σ : L2.St} {H : Hp} {q y : Str} {f c' : Addr} {cl : List (Str × Addr)} {pm ctv : Value} {xs : List V} {its : List Value} {k : V → Int} {g : Int → Int} (I : Inv X pins σ H s) (L : LamP y scope) (B : KeyBody X.prog X.w y body g)
    (hbind : ∀ (cl : List (Str × Addr)) (pm ctv v : Value) (c' : Addr), bindArgs (PySem.W.kla_fn "<lambda>" q params body scope cl pm (.ref c') ctv) ⟨[v], []⟩ = pure [(y, v)]) (hco : H c' = some (CodeO c' q))
    (hf : s.heap.get? f = some (PySem.W.kla_obj "<lambda>" q params body scope cl pm c' ctv)) (rv : Vals xs its) (hx : ∀ y ∈ xs, ∃ t zs, y = V.ref t ∧ H t = some (.tup (.int (k y) :: zs))) :
    xs = its.map backV ∧ (∀ u ∈ its, ∃ a, u = Value.ref a) ∧ Keyed X s q body scope f its (fun i => match its[i]? with | some v => g (k (backV v)) | none => 0) := by
  obtain ⟨e1, e2⟩ := refs_back rv fun x m => by
    obtain ⟨t, _, e, _⟩ := hx x m
    exact ⟨t, e⟩
  obtain ⟨⟨oc, cvs, ct, hoc, hdc, hvc⟩, _, _⟩ := I.hok c' _ hco
  refine ⟨e1, e2, ⟨fun A i v h tk hA hi kp => ?_⟩⟩
  have hv := List.mem_of_getElem? hi
  have fst : Fst s.heap v (k (backV v)) := by
    obtain ⟨t, rfl⟩ := e2 v hv
    have hm : V.ref t ∈ xs := by rw [e1]; exact List.mem_map.mpr ⟨_, hv, rfl⟩
    obtain ⟨t', zs, e, ht⟩ := hx _ hm
    cases e
    obtain ⟨_, its2, r2, ht2⟩ := I.hok _ _ ht
    cases r2 with
    | cons r0 r1 =>
      obtain ⟨tk, rfl⟩ := r0
      exact ⟨t, _, tk, rfl, ht2, rfl⟩
  rw [hi]
  exact lam_turn (s := { s with heap := h, toks := tk }) hA (kp _ _ hf) ⟨c', oc, cvs, ct, rfl, kp _ _ hoc, hdc, hvc⟩ (hbind _ _ _ _ _) L (I.nolimit.keeps kp) B (fst.keep kp)
theorem cr_minLam {q y : Str} {g : Int → Int} (hr : Room 1 X.A) (L : LamP y scope) (B : KeyBody X.prog X.w y body g)
    (hbind : ∀ (cl : List (Str × Addr)) (pm ctv v : Value) (c' : Addr), bindArgs (PySem.W.kla_fn "<lambda>" q params body scope cl pm (.ref c') ctv) ⟨[v], []⟩ = pure [(y, v)]) :
    CallRL X "min" q params body scope (rBestKey X.K g) := by
  intro pins s σ H vs us f c' cl pm ctv Q I r hco hf h
  obtain ⟨a, xs, k, rfl, hs, pos, hx, q⟩ := h
  obtain ⟨its, rv, hl, hz⟩ := I.list hs
  obtain rfl := Vals.ref1 r
  obtain ⟨e1, e2, Kd⟩ := keyed I L B hbind hco hf rv hx
  have hla : a < s.heap.objs.size := by obtain ⟨_, e, _⟩ := hl.isList; exact Heap.lt_size e
  have hA : X.A.in1.depth < recursionLimit := by have := hr.dp; show X.A.depth < _; omega
  have nl : its.length = xs.length := rv.length.symm
  have KR := keyrun (op := .Lt) (bt := fun i j => decide ((fun i => match its[i]? with | some v => g (k (backV v)) | none => 0) i < (fun i => match its[i]? with | some v => g (k (backV v)) | none => 0) j)) Kd hla hA (fun i j ki kj s1 Q E h1 h2 hq => CmpOf.ints_lt (P := fun i v => ∃ t, v = .int ((fun i => match its[i]? with | some v => g (k (backV v)) | none => 0) i) t) _ (fun _ _ h => h) i j ki kj s1 Q E h1 h2 hq)
  refine call_min_walkK (wpAny_pyIter_list hl.isList ⟨s.heap.objs.size, [s.heap.objs.size, a], [s.heap.objs.size], _, its.toArray.size, _, _, (fun s' : Shared => ∃ h' tk, s' = { s with heap := h', toks := tk } ∧ ∀ b o, s.heap.get? b = some o → h'.get? b = some o), (fun i (kv : Value) (_ : Shared) => ∃ t, kv = Value.int ((fun i => match its[i]? with | some v => g (k (backV v)) | none => 0) i) t), (fun i j => decide ((fun i => match its[i]? with | some v => g (k (backV v)) | none => 0) i < (fun i => match its[i]? with | some v => g (k (backV v)) | none => 0) j)), rfl, (Walks.list (A := X.A.in1) hr.hd _ a (Nat.ne_of_lt hla) its.toArray).toS, ⟨⟨_, Heap.get?_push_size _ rfl, rfl, rfl⟩, hl.isList.push _⟩, fun b hb => ?_, by rw [List.size_toArray]; omega, by rw [Heap.size_push]; exact KR, ⟨_, s.toks, rfl, fun b o e => Heap.get?_push_of_some _ e⟩, fun v s' hP hJ => ?_⟩)
  · show b < (s.heap.push _).objs.size
    rw [Heap.size_push]
    rcases List.mem_cons.mp hb with z | z
    · rw [z]
      exact Nat.lt_succ_self _
    · rw [List.mem_singleton.mp z]
      exact Nat.lt_succ_of_lt hla
  · obtain ⟨h', tk, rfl, kp⟩ := hJ
    have hP : its[argBest (fun i j => decide ((fun i => match its[i]? with | some v => g (k (backV v)) | none => 0) i < (fun i => match its[i]? with | some v => g (k (backV v)) | none => 0) j)) (its.toArray.size - 1)]? = some v := by simpa using hP
    rw [List.size_toArray] at hP
    obtain ⟨f1, f2, f3⟩ := first_least (fun i => match its[i]? with | some v => g (k (backV v)) | none => 0) (its.length - 1)
    generalize argBest (fun i j => decide ((fun i => match its[i]? with | some v => g (k (backV v)) | none => 0) i < (fun i => match its[i]? with | some v => g (k (backV v)) | none => 0) j)) (its.length - 1) = m at hP f1 f2 f3
    have at_ : ∀ (j : Nat) (z : V), xs[j]? = some z → ∃ u, its[j]? = some u ∧ z = backV u := fun j z hz => by
      rw [e1, List.getElem?_map] at hz
      cases eu : its[j]? with
      | none => rw [eu] at hz; cases hz
      | some u => rw [eu] at hz; exact ⟨u, rfl, (Option.some.inj hz).symm⟩
    obtain ⟨av, rfl⟩ := e2 v (List.mem_of_getElem? hP)
    refine ⟨.ref av, H, I.kept kp, rfl, q _ ⟨m, ?_, fun j z hz => ?_, fun j z hj hz => ?_⟩⟩
    · rw [e1, List.getElem?_map, hP]
      rfl
    · obtain ⟨u, hu, rfl⟩ := at_ j z hz
      have := f2 j (by have := (List.getElem?_eq_some_iff.mp hu).1; omega)
      simp only [hP, hu] at this
      exact this
    · obtain ⟨u, hu, rfl⟩ := at_ j z hz
      have := f3 j hj
      simp only [hP, hu] at this
      exact this
theorem cr_maxLam {q y : Str} {g : Int → Int} (hr : Room 1 X.A) (L : LamP y scope) (B : KeyBody X.prog X.w y body g)
    (hbind : ∀ (cl : List (Str × Addr)) (pm ctv v : Value) (c' : Addr), bindArgs (PySem.W.kla_fn "<lambda>" q params body scope cl pm (.ref c') ctv) ⟨[v], []⟩ = pure [(y, v)]) :
    CallRL X "max" q params body scope (rBestKey X.K (fun i => -(g i))) := by
  intro pins s σ H vs us f c' cl pm ctv Q I r hco hf h
  obtain ⟨a, xs, k, rfl, hs, pos, hx, q⟩ := h
  obtain ⟨its, rv, hl, hz⟩ := I.list hs
  obtain rfl := Vals.ref1 r
  obtain ⟨e1, e2, Kd⟩ := keyed I L B hbind hco hf rv hx
  have hla : a < s.heap.objs.size := by obtain ⟨_, e, _⟩ := hl.isList; exact Heap.lt_size e
  have hA : X.A.in1.depth < recursionLimit := by have := hr.dp; show X.A.depth < _; omega
  have nl : its.length = xs.length := rv.length.symm
  have KR := keyrun (op := .Gt) (bt := fun i j => decide ((fun i => match its[i]? with | some v => g (k (backV v)) | none => 0) i > (fun i => match its[i]? with | some v => g (k (backV v)) | none => 0) j)) Kd hla hA (fun i j ki kj s1 Q E h1 h2 hq => CmpOf.ints_gt (P := fun i v => ∃ t, v = .int ((fun i => match its[i]? with | some v => g (k (backV v)) | none => 0) i) t) _ (fun _ _ h => h) i j ki kj s1 Q E h1 h2 hq)
  refine call_max_walkK (wpAny_pyIter_list hl.isList ⟨s.heap.objs.size, [s.heap.objs.size, a], [s.heap.objs.size], _, its.toArray.size, _, _, (fun s' : Shared => ∃ h' tk, s' = { s with heap := h', toks := tk } ∧ ∀ b o, s.heap.get? b = some o → h'.get? b = some o), (fun i (kv : Value) (_ : Shared) => ∃ t, kv = Value.int ((fun i => match its[i]? with | some v => g (k (backV v)) | none => 0) i) t), (fun i j => decide ((fun i => match its[i]? with | some v => g (k (backV v)) | none => 0) i > (fun i => match its[i]? with | some v => g (k (backV v)) | none => 0) j)), rfl, (Walks.list (A := X.A.in1) hr.hd _ a (Nat.ne_of_lt hla) its.toArray).toS, ⟨⟨_, Heap.get?_push_size _ rfl, rfl, rfl⟩, hl.isList.push _⟩, fun b hb => ?_, by rw [List.size_toArray]; omega, by rw [Heap.size_push]; exact KR, ⟨_, s.toks, rfl, fun b o e => Heap.get?_push_of_some _ e⟩, fun v s' hP hJ => ?_⟩)
  · show b < (s.heap.push _).objs.size
    rw [Heap.size_push]
    rcases List.mem_cons.mp hb with z | z
    · rw [z]
      exact Nat.lt_succ_self _
    · rw [List.mem_singleton.mp z]
      exact Nat.lt_succ_of_lt hla
  · obtain ⟨h', tk, rfl, kp⟩ := hJ
    have hP : its[argBest (fun i j => decide ((fun i => match its[i]? with | some v => g (k (backV v)) | none => 0) i > (fun i => match its[i]? with | some v => g (k (backV v)) | none => 0) j)) (its.toArray.size - 1)]? = some v := by simpa using hP
    rw [List.size_toArray, best_neg] at hP
    obtain ⟨f1, f2, f3⟩ := first_least (fun i => -((fun i => match its[i]? with | some v => g (k (backV v)) | none => 0) i)) (its.length - 1)
    generalize argBest (fun i j => decide ((fun i => -((fun i => match its[i]? with | some v => g (k (backV v)) | none => 0) i)) i < (fun i => -((fun i => match its[i]? with | some v => g (k (backV v)) | none => 0) i)) j)) (its.length - 1) = m at hP f1 f2 f3
    have at_ : ∀ (j : Nat) (z : V), xs[j]? = some z → ∃ u, its[j]? = some u ∧ z = backV u := fun j z hz => by
      rw [e1, List.getElem?_map] at hz
      cases eu : its[j]? with
      | none => rw [eu] at hz; cases hz
      | some u => rw [eu] at hz; exact ⟨u, rfl, (Option.some.inj hz).symm⟩
    obtain ⟨av, rfl⟩ := e2 v (List.mem_of_getElem? hP)
    refine ⟨.ref av, H, I.kept kp, rfl, q _ ⟨m, ?_, fun j z hz => ?_, fun j z hj hz => ?_⟩⟩
    · rw [e1, List.getElem?_map, hP]
      rfl
    · obtain ⟨u, hu, rfl⟩ := at_ j z hz
      have := f2 j (by have := (List.getElem?_eq_some_iff.mp hu).1; omega)
      simp only [hP, hu] at this
      exact this
    · obtain ⟨u, hu, rfl⟩ := at_ j z hz
      have := f3 j hj
      simp only [hP, hu] at this
      exact this
end
open LamX in
/-- the same, with default=None -/
def CallRD (X : Cx) (id : String) (q : Str) (params : Arguments) (body : Expr) (scope : Scope) (r : List V → Hp → VK → Prop) : Prop :=
  ∀ (pins : List (Addr × Obj)) (s : Shared) (σ : L2.St) (H : Hp) (xs : List V) (us : List Value) (f c' : Addr) (cl : List (Str × Addr)) (pm ctv : Value) (Q : VK), Inv X pins σ H s → Vals xs us → H c' = some (CodeO c' q) →
    s.heap.get? f = some (PySem.W.kla_obj "<lambda>" q params body scope cl pm c' ctv) → r xs H Q → wpAny (model X.prog X.w) X.A (call (.builtin id) us [(Str.ofString "key", .ref f), (Str.ofString "default", .none)]) (EP X pins σ Q) X.xe s
section
open LamX
variable {X : Cx} {x : Str} {p pos lpos kpos : Pos} {e : Expr} {es : List Expr} {t : TA} {id : String} {r : List V → Hp → VK → Prop} {params : Arguments} {body : Expr} {scope : Scope} {T : List (Addr × Str)} {c P : Addr}
theorem pe_callLD {jd : Nat} {dpos kpos2 : Pos} (TB : TabB X.base X.mg c P) (hcode : X.env.code = .ref c) (hmT : (P, X.env.qual ++ "<lambda>") ∈ T) (hu : ∀ p ∈ T, p.1 = P → p.2 = X.env.qual ++ "<lambda>") (hc : CallRD X id (X.env.qual ++ "<lambda>") params body scope r)
    (hg : Gl X x) (hm : X.mg x = none) (hv : bootBuiltins x = some (.builtin id)) (ha : PA X (e :: es) t) (hdef : defaultsOf params X.env = ([], [])) (hfree : ∀ y ∈ scope.names, y.2 ≠ .free)
    (hn : x ≠ "__name__" := by decide) (hdb : (x == ("__debug__" : Str)) = false := by decide)
    (he : backTo pos (starEach (e :: es) X.env) = (false, eval e X.env) :: backTo pos (starEach es X.env) := by rfl) (hpl : (backTo pos (starEach (e :: es) X.env)).any (·.1) = false := by rfl) :
    PE X (.Call (.Name x p) (e :: es) [⟨some "key", .Lambda params body scope lpos, kpos⟩, ⟨some "default", .Constant .none jd dpos, kpos2⟩] pos) (tLamR T r t) := by
  refine ⟨fun pins s σ H Q I h => ?_⟩
  refine wpAny_Call_Name_kw (ld_blt I hg hm hv ?_ hn hdb)
  refine PyProof.Rows.callWith_kw (thn (ha.run pos pins s σ H _ I h) fun us s1 ⟨vs, H1, I1, r1, hT, q1⟩ => ?_) he hpl rfl rfl
  show wpAny _ _ (evalAll [(do let v ← eval (.Lambda params body scope lpos) X.env; standAt pos; pure v), (do let v ← eval (.Constant .none jd dpos) X.env; standAt pos; pure v)]) _ _ s1
  refine wpAny_evalAll_cons (wpAny_bind (lam_make2 I1 TB hcode hmT hu hT hdef (fun y hy z => absurd z (hfree y hy)) fun f c' pm ctv H2 s2 I2 eN T2 hf hfn hfr hco => ?_))
  refine wpAny_bind (wpAny_standAt (wpAny_pure (wpAny_evalAll_cons (wpAny_bind (Constant_none (wpAny_bind (wpAny_standAt (wpAny_pure (wpAny_evalAll_nil ?_)))))))))
  exact hc pins s2 σ H2 vs us f c' _ pm ctv Q I2 r1 hco hf (q1 H2 eN T2)
def rBestKeyD (K : PySem.W.Frag) (h : Int → Int) : List V → Hp → VK → Prop := fun vs H Q => ∃ (a : Addr) (xs : List V) (k : V → Int), vs = [V.ref a] ∧ SqL K H a xs ∧ (∀ y ∈ xs, ∃ t zs, y = V.ref t ∧ H t = some (.tup (.int (k y) :: zs))) ∧ (xs = [] → Q .non H) ∧ ∀ y, FirstLeast xs (fun z => h (k z)) y → Q y H
theorem cr_minLamD {q y : Str} {g : Int → Int} (hr : Room 1 X.A) (L : LamP y scope) (B : KeyBody X.prog X.w y body g)
    (hbind : ∀ (cl : List (Str × Addr)) (pm ctv v : Value) (c' : Addr), bindArgs (PySem.W.kla_fn "<lambda>" q params body scope cl pm (.ref c') ctv) ⟨[v], []⟩ = pure [(y, v)]) :
    CallRD X "min" q params body scope (rBestKeyD X.K g) := by
  intro pins s σ H vs us f c' cl pm ctv Q I r hco hf h
  obtain ⟨a, xs, k, rfl, hs, hx, q0, q⟩ := h
  obtain ⟨its, rv, hl, hz⟩ := I.list hs
  obtain rfl := Vals.ref1 r
  obtain ⟨e1, e2, Kd⟩ := keyed I L B hbind hco hf rv hx
  have hla : a < s.heap.objs.size := by obtain ⟨_, e, _⟩ := hl.isList; exact Heap.lt_size e
  have hA : X.A.in1.depth < recursionLimit := by have := hr.dp; show X.A.depth < _; omega
  have nl : its.length = xs.length := rv.length.symm
  have KR := keyrun (op := .Lt) (bt := fun i j => decide ((fun i => match its[i]? with | some v => g (k (backV v)) | none => 0) i < (fun i => match its[i]? with | some v => g (k (backV v)) | none => 0) j)) Kd hla hA (fun i j ki kj s1 Q E h1 h2 hq => CmpOf.ints_lt (P := fun i v => ∃ t, v = .int ((fun i => match its[i]? with | some v => g (k (backV v)) | none => 0) i) t) _ (fun _ _ h => h) i j ki kj s1 Q E h1 h2 hq)
  refine call_min_walkKD (wpAny_pyIter_list hl.isList ⟨s.heap.objs.size, [s.heap.objs.size, a], [s.heap.objs.size], _, its.toArray.size, _, _, (fun s' : Shared => ∃ h' tk, s' = { s with heap := h', toks := tk } ∧ ∀ b o, s.heap.get? b = some o → h'.get? b = some o), (fun i (kv : Value) (_ : Shared) => ∃ t, kv = Value.int ((fun i => match its[i]? with | some v => g (k (backV v)) | none => 0) i) t), (fun i j => decide ((fun i => match its[i]? with | some v => g (k (backV v)) | none => 0) i < (fun i => match its[i]? with | some v => g (k (backV v)) | none => 0) j)), rfl, (Walks.list (A := X.A.in1) hr.hd _ a (Nat.ne_of_lt hla) its.toArray).toS, ⟨⟨_, Heap.get?_push_size _ rfl, rfl, rfl⟩, hl.isList.push _⟩, fun b hb => ?_, by rw [Heap.size_push]; exact KR, ⟨_, s.toks, rfl, fun b o e => Heap.get?_push_of_some _ e⟩, fun n0 s' hJ => ?_, fun npos v s' hP hJ => ?_⟩)
  · show b < (s.heap.push _).objs.size
    rw [Heap.size_push]
    rcases List.mem_cons.mp hb with z | z
    · rw [z]
      exact Nat.lt_succ_self _
    · rw [List.mem_singleton.mp z]
      exact Nat.lt_succ_of_lt hla
  · obtain ⟨h', tk, rfl, kp⟩ := hJ
    rw [List.size_toArray] at n0
    exact ⟨.non, H, I.kept kp, rfl, q0 (List.length_eq_zero_iff.mp (by omega))⟩
  · obtain ⟨h', tk, rfl, kp⟩ := hJ
    rw [List.size_toArray] at npos
    have hP : its[argBest (fun i j => decide ((fun i => match its[i]? with | some v => g (k (backV v)) | none => 0) i < (fun i => match its[i]? with | some v => g (k (backV v)) | none => 0) j)) (its.toArray.size - 1)]? = some v := by simpa using hP
    rw [List.size_toArray] at hP
    obtain ⟨f1, f2, f3⟩ := first_least (fun i => match its[i]? with | some v => g (k (backV v)) | none => 0) (its.length - 1)
    generalize argBest (fun i j => decide ((fun i => match its[i]? with | some v => g (k (backV v)) | none => 0) i < (fun i => match its[i]? with | some v => g (k (backV v)) | none => 0) j)) (its.length - 1) = m at hP f1 f2 f3
    have at_ : ∀ (j : Nat) (z : V), xs[j]? = some z → ∃ u, its[j]? = some u ∧ z = backV u := fun j z hz => by
      rw [e1, List.getElem?_map] at hz
      cases eu : its[j]? with
      | none => rw [eu] at hz; cases hz
      | some u => rw [eu] at hz; exact ⟨u, rfl, (Option.some.inj hz).symm⟩
    obtain ⟨av, rfl⟩ := e2 v (List.mem_of_getElem? hP)
    refine ⟨.ref av, H, I.kept kp, rfl, q (.ref av) ⟨m, ?_, fun j z hz => ?_, fun j z hj hz => ?_⟩⟩
    · rw [e1, List.getElem?_map, hP]
      rfl
    · obtain ⟨u, hu, rfl⟩ := at_ j z hz
      have := f2 j (by have := (List.getElem?_eq_some_iff.mp hu).1; omega)
      simp only [hP, hu] at this
      exact this
    · obtain ⟨u, hu, rfl⟩ := at_ j z hz
      have := f3 j hj
      simp only [hP, hu] at this
      exact this
end
end Far

namespace Far
open PySem PySem.Spec PyProof.Rows L2
open C8 (pss_cut tCut)
open SX (S)
open RZ (ItzT iZipA pi_zipA)
theorem for_zipT {K : PySem.W.Frag} {a b : Addr} {xs ys : List V} {g : TG} {tb : TS} {D : Ends} {σ : L2.St} {H : Hp} (len : xs.length = ys.length) (Pv : Nat → L2.St → Hp → Prop) (h0 : Pv 0 σ H) (hl : ∀ i σ H, Pv i σ H → SqT K H a xs ∧ SqT K H b ys)
    (hs : ∀ i x y σ H T, xs[i]? = some x → ys[i]? = some y → Pv i σ H → H T = none → g (.ref T) σ (upd H T (.tup [x, y])) fun σ2 H2 => tb { D with nx := Pv (i + 1), ct := Pv (i + 1), bk := D.nx } σ2 H2) (hd : ∀ σ H, Pv xs.length σ H → D.nx σ H) :
    ∃ W : Nat → Nat → L2.St → Hp → Prop, (∃ m, W 0 m σ H) ∧ ∀ i m σ H, W i m σ H →
      ((ItzT K a b).stop i H ∧ D.nx σ H) ∨ ((ItzT K a b).go i H ∧ ∃ N : L2.St → Hp → Prop, (∀ σ' H', N σ' H' → ∃ m', m' < m ∧ W (i + 1) m' σ' H') ∧ ∀ x H', (ItzT K a b).yld i H x H' → g x σ H' fun σ2 H2 => tb { D with nx := N, ct := N, bk := D.nx } σ2 H2) := by
  refine ⟨fun i m σ H => m = xs.length - i ∧ i ≤ xs.length ∧ Pv i σ H, ⟨xs.length, by simp, Nat.zero_le _, h0⟩, fun i m σ H ⟨em, hi, p⟩ => ?_⟩
  obtain ⟨q1, q2⟩ := hl i σ H p
  by_cases lt : i < xs.length
  · have lt2 : i < ys.length := by omega
    refine .inr ⟨⟨xs, ys, xs[i], ys[i], q1, q2, by simp [lt], by simp [lt2]⟩, Pv (i + 1), fun σ' H' p' => ⟨xs.length - (i + 1), by omega, rfl, lt, p'⟩, fun v H' ⟨T, x, y, ev, nT, eH, hx, hy⟩ => ?_⟩
    rw [ev, eH]
    exact hs i x y σ H T (hx xs q1) (hy ys q2) p nT
  · have e : i = xs.length := by omega
    rw [e] at p
    exact .inl ⟨⟨xs, ys, q1, q2, .inl (by omega)⟩, hd σ H p⟩
/-- the greatest length inside the two trees -/
def mx2 (i j : Int) : Int := if j > i then j else i
noncomputable def insN (pl pl' : List Nm) (ts ts' : List Tie) : Int := mx2 (mxG (pl.map (rch pl ts))) (mxG (pl'.map (rch pl' ts')))
noncomputable def joinT (pl pl' : List Nm) (ts ts' : List Tie) (k : Int) (x y : Nm) : Tri := (mx2 (insN pl pl' ts ts') (rch pl ts x + k + rch pl' ts' y), x, y)
noncomputable def joinsOf (pl pl' : List Nm) (ts ts' : List Tie) (k : Int) (l : List Nm) : List Tri := l.flatMap fun x => pl'.map fun y => joinT pl pl' ts ts' k x y
theorem joinsOf_len (pl pl' : List Nm) (ts ts' : List Tie) (k : Int) : ∀ l : List Nm, (joinsOf pl pl' ts ts' k l).length = l.length * pl'.length
  | [] => by simp [joinsOf]
  | x :: r => by
    have ih := joinsOf_len pl pl' ts ts' k r
    unfold joinsOf at *
    rw [List.flatMap_cons, List.length_append, ih, List.length_map, List.length_cons, Nat.succ_mul]
    omega
theorem joinsOf_snoc (pl pl' : List Nm) (ts ts' : List Tie) (k : Int) (l : List Nm) (x : Nm) : joinsOf pl pl' ts ts' k (l ++ [x]) = joinsOf pl pl' ts ts' k l ++ pl'.map fun y => joinT pl pl' ts ts' k x y := by
  unfold joinsOf
  rw [List.flatMap_append]
  simp
structure TxtJ (mg : Str → Option Value) : Prop where
  max : mg "max" = none
  zip : mg "zip" = none
abbrev s_all_joins : Stmt := topS 17
abbrev N_all_joins : List Str := ["one", "other", "length", "reaches", "beyond", "inside", "told", "first", "reach", "second", "far"]
theorem sc_all_joins : FnScope N_all_joins ["one", "other", "length"] (defScope s_all_joins) := ⟨rfl, rfl, rfl, by decide +kernel, rfl, by decide +kernel, by decide +kernel⟩
section
variable {P : Program} {w : World} {K : PySem.W.Frag} {mg : Str → Option Value} {base : Heap} {J : Addr}
def spAllJ (J : Addr) : Sp := fun vs H Q E => ∃ (v v' : V) (pl pl' : List Nm) (ts ts' : List Tie) (k : Int), vs = [v, v', .int k] ∧ Dt H v (treeD pl ts) ∧ Dt H v' (treeD pl' ts') ∧ (∀ x ∈ pl, NameOk x) ∧ pl.length ≤ 40 ∧ pl'.length ≤ 40 ∧
  ((∀ x ∈ pl, x ∉ pl') → Fine pl ts ∧ Fine pl' ts' ∧ ∀ (H' : Hp) (q : Addr) (ws : List V), Same H H' → H q = none → H' q = some (.lst ws) → DtAll H' ws ((joinsOf pl pl' ts ts' k pl).map triD) → Q (.ref q) H') ∧
  ((∃ x ∈ pl, x ∈ pl') → ∀ H' : Hp, Same H H' → E (.ref J) none H')
theorem ok_all_joins {f : Addr} {fd : FuncData} (F : Fun K "_all_joins" "_all_joins" s_all_joins f fd) (T : TxtJ mg) (C_check_unlike : CalX P w K mg base 1 "_check_unlike" (spUnlikeX J)) (Cfarthest_of_each : Cal P w K mg base 4 "farthest_of_each" spFoe) : FnOk P w K mg base (L2.CX P w) 5 f fd ["one", "other", "length"] (spAllJ J) := by
  refine F.okX sc_all_joins (fun vs H Q E h => ?_) (fun cdv A outer s H vs Q E hr h => ?_)
  · obtain ⟨v, v', pl, pl', ts, ts', k, rfl, _⟩ := h
    rfl
  · obtain ⟨v, v', pl, pl', ts, ts', k, rfl, hd, hd', oks, l1, l2, q, qE⟩ := h
    obtain ⟨t, a, b, vs, rfl, ht, ha, hb, hA⟩ := dt_tree hd
    obtain ⟨t', a', b', vs', rfl, ht', ha', hb', hA'⟩ := dt_tree hd'
    refine ⟨_, (pss_cons (ps_expr (pe_cX (takes_of rfl rfl rfl rfl) C_check_unlike hr (by decide) rfl (pa_cons (pv 0) (pa_cons (pv 1) pa_nil))))
      (pss_cons (ps_set (i := 3) sc_all_joins.nd rfl (.inl rfl) (pe_c Cfarthest_of_each hr (by decide) rfl (pa_cons (pv 0) pa_nil)))
      (pss_cons (ps_set (i := 4) sc_all_joins.nd rfl (.inl rfl) (pe_c Cfarthest_of_each hr (by decide) rfl (pa_cons (pv 1) pa_nil)))
      (pss_cons (ps_set (i := 5) sc_all_joins.nd rfl (.inl rfl) (pe_callB (call_max2 rfl) (by rfl) T.max bt_max (pa_cons (pe_callB (cr_maxT (K := K) rfl) (by rfl) T.max bt_max (pa_cons (pv 3) pa_nil)) (pa_cons (pe_callB (cr_maxT (K := K) rfl) (by rfl) T.max bt_max (pa_cons (pv 4) pa_nil)) pa_nil))))
      (pss_cons (ps_set (i := 6) sc_all_joins.nd rfl (.inl rfl) (pe_lst pa_nil))
      (pss_cut (ps_for (passes_of rfl) rfl (pi_zipA (by rfl) T.zip (pa_cons (pe_ix ix_tup (pv 0) pe_int (fun _ _ => rfl)) (pa_cons (pv 3) pa_nil))) (pg_tup rfl (pgs_cons (pg_name (i := 7) sc_all_joins.nd rfl (.inl rfl)) (pgs_cons (pg_name (i := 8) sc_all_joins.nd rfl (.inl rfl)) pgs_nil)))
        (pss_one (ps_for (passes_of rfl) rfl (pi_zipA (by rfl) T.zip (pa_cons (pe_ix ix_tup (pv 1) pe_int (fun _ _ => rfl)) (pa_cons (pv 4) pa_nil))) (pg_tup rfl (pgs_cons (pg_name (i := 9) sc_all_joins.nd rfl (.inl rfl)) (pgs_cons (pg_name (i := 10) sc_all_joins.nd rfl (.inl rfl)) pgs_nil)))
          (pss_one (ps_expr (pe_bm PySem.F.plainAttrs_list PySem.F.slot_list_append PySem.F.type_list_append mt_append (pv 6) (pa_cons (pe_tup (pa_cons (pe_callB (call_max2 rfl) (by rfl) T.max bt_max (pa_cons (pv 5) (pa_cons (pe_op op_add (pe_op op_add (pv 8) (pv 2)) (pv 10)) pa_nil))) (pa_cons (pv 7) (pa_cons (pv 9) pa_nil)))) pa_nil)))))))
      (pss_one (ps_ret (pv 6))))))))), ?_⟩
    refine ⟨_, rfl, _, rfl, .ref t, .ref t', pl, pl', ts, ts', rfl, hd, hd', oks, fun dis => ?_, fun sh H' sm => qE sh H' sm⟩
    obtain ⟨F1, F2, q⟩ := q dis
    have lpos : 0 < pl.length := List.length_pos_iff.mpr F1.ne
    have lpos' : 0 < pl'.length := List.length_pos_iff.mpr F2.ne
    refine ⟨_, rfl, .ref t, pl, ts, rfl, hd, F1, fun H1 r1 S1 n1 h1 => ?_⟩
    refine ⟨_, rfl, .ref t', pl', ts', rfl, Dt.keep (TK.of S1) hd', F2, fun H2 r2 S2 n2 h2 => ?_⟩
    have h12 := S2 _ _ h1
    have S12 := S1.trans S2
    refine ⟨_, rfl, r1, _, rfl, SqT.of h12, by rw [List.length_map]; exact lpos, fun m hm hle => ?_⟩
    rw [mxG_is hm hle]
    refine ⟨_, rfl, r2, _, rfl, SqT.of h2, by rw [List.length_map]; exact lpos', fun m' hm' hle' => ?_⟩
    rw [mxG_is hm' hle']
    clear hm hle hm' hle'
    refine ⟨_, _, rfl, ?_⟩
    refine ⟨Nat.zero_le _, fun D nD => ?_⟩
    have S3 := same_new (o := .lst []) S12 nD
    have nD0 := S12.free nD
    have h13 := same_new (o := .lst []) (Same.refl H2) nD _ _ h12
    have h23 := same_new (o := .lst []) (Same.refl H2) nD _ _ h2
    have hD0 : (upd H2 D (.lst [])) D = some (.lst []) := upd_same
    generalize upd H2 D (.lst []) = H3 at S3 h13 h23 hD0
    have r1D : r1 ≠ D := ne_of h13 hD0 (by intro z; cases z)
    have r2D : r2 ≠ D := ne_of h23 hD0 (by intro z; cases z)
    refine ⟨fun σ' H' => ∃ (x7 x8 x9 x10 : Option V) (ws : List V), σ' = [some (.ref t), some (.ref t'), some (.int k), some (.ref r1), some (.ref r2), some (.int (insN pl pl' ts ts')), some (.ref D), x7, x8, x9, x10] ∧ Same H H' ∧ H' D = some (.lst ws) ∧ DtAll H' ws ((joinsOf pl pl' ts ts' k pl).map triD), ?_, fun σ' H' hM => ?_⟩
    rotate_left
    · obtain ⟨x7, x8, x9, x10, ws, rfl, S4, hD, hW⟩ := hM
      exact ⟨_, rfl, q H' D ws S4 nD0 hD hW⟩
    · refine ⟨_, rfl, t, _, 0, .ref a, rfl, rfl, SqT.of (S3 _ _ ht), atI_nat (j := 0) rfl, _, rfl, a, r1, _, _, rfl, .inr ⟨(ha.same S3).sq, SqT.of h13, for_zipT (K := K) (a := a) (b := r1) (xs := (pl.map S).map V.str) (ys := (pl.map (rch pl ts)).map V.int) (by simp) (fun i σ' H' => ∃ (x7 x8 x9 x10 : Option V) (ws : List V), σ' = [some (.ref t), some (.ref t'), some (.int k), some (.ref r1), some (.ref r2), some (.int (insN pl pl' ts ts')), some (.ref D), x7, x8, x9, x10] ∧ Same H H' ∧ H' r1 = some (.tup ((pl.map (rch pl ts)).map V.int)) ∧ H' r2 = some (.tup ((pl'.map (rch pl' ts')).map V.int)) ∧ H' D = some (.lst ws) ∧ DtAll H' ws ((joinsOf pl pl' ts ts' k (pl.take i)).map triD))
        ⟨none, none, none, none, [], rfl, S3, h13, h23, hD0, .nil⟩ (fun i σ' H' hP => ?_) (fun i x y σ' H' T1 hx hy hP nT => ?_) (fun σ' H' hP => ?_)⟩⟩
      · obtain ⟨_, _, _, _, _, _, S4, g1, _, _⟩ := hP
        exact ⟨(ha.same S4).sq, SqT.of g1⟩
      · obtain ⟨x7, x8, x9, x10, ws, rfl, S4, g1, g2, hD, hW⟩ := hP
        obtain ⟨nm, hnm, mnm, rfl, ex⟩ := at_name hx
        have ey : y = .int (rch pl ts nm) := by
          rw [List.getElem?_map, List.getElem?_map, hnm] at hy
          exact (Option.some.inj hy).symm
        subst ey
        have il := (List.getElem?_eq_some_iff.mp hnm).1
        have S5 := same_new (o := .tup [.str (S nm), .int (rch pl ts nm)]) S4 nT
        have g15 := same_new (o := .tup [.str (S nm), .int (rch pl ts nm)]) (Same.refl H') nT _ _ g1
        have g25 := same_new (o := .tup [.str (S nm), .int (rch pl ts nm)]) (Same.refl H') nT _ _ g2
        have hD5 := same_new (o := .tup [.str (S nm), .int (rch pl ts nm)]) (Same.refl H') nT _ _ hD
        have hW5 := DtAll.keep (TK.new (o := .tup [.str (S nm), .int (rch pl ts nm)]) nT) hW
        have hT : (upd H' T1 (.tup [.str (S nm), .int (rch pl ts nm)])) T1 = some (.tup [.str (S nm), .int (rch pl ts nm)]) := upd_same
        generalize upd H' T1 (.tup [.str (S nm), .int (rch pl ts nm)]) = H5 at S5 g15 g25 hD5 hW5 hT
        refine ⟨T1, _, rfl, SqT.of hT, rfl, _, _, rfl, _, _, rfl, rfl, ?_⟩
        rw [ex, joinsOf_snoc]
        refine ⟨_, rfl, t', _, 0, .ref a', rfl, rfl, SqT.of (S5 _ _ ht'), atI_nat (j := 0) rfl, _, rfl, a', r2, _, _, rfl, .inr ⟨(ha'.same S5).sq, SqT.of g25, for_zipT (K := K) (a := a') (b := r2) (xs := (pl'.map S).map V.str) (ys := (pl'.map (rch pl' ts')).map V.int) (by simp) (fun j σ' H' => ∃ (x9 x10 : Option V) (ws : List V), σ' = [some (.ref t), some (.ref t'), some (.int k), some (.ref r1), some (.ref r2), some (.int (insN pl pl' ts ts')), some (.ref D), some (.str (S nm)), some (.int (rch pl ts nm)), x9, x10] ∧ Same H H' ∧ H' r1 = some (.tup ((pl.map (rch pl ts)).map V.int)) ∧ H' r2 = some (.tup ((pl'.map (rch pl' ts')).map V.int)) ∧ H' D = some (.lst ws) ∧ DtAll H' ws ((joinsOf pl pl' ts ts' k (pl.take i) ++ (pl'.take j).map fun y => joinT pl pl' ts ts' k nm y).map triD))
          ⟨_, _, ws, rfl, S5, g15, g25, hD5, by rw [List.take_zero, List.map_nil, List.append_nil]; exact hW5⟩ (fun j σ' H' hP => ?_) (fun j x y σ' H' T2 hx hy hP nT => ?_) (fun σ' H' hP => ?_)⟩⟩
        · obtain ⟨_, _, _, _, S4, _, g2, _⟩ := hP
          exact ⟨(ha'.same S4).sq, SqT.of g2⟩
        · clear S4 S5 g1 g2 g15 g25 hD hD5 hW hW5 hT ws
          obtain ⟨y9, y10, ws, rfl, S4, g1, g2, hD, hW⟩ := hP
          obtain ⟨nn, hnn, mnn, rfl, ex2⟩ := at_name hx
          have ey : y = .int (rch pl' ts' nn) := by
            rw [List.getElem?_map, List.getElem?_map, hnn] at hy
            exact (Option.some.inj hy).symm
          subst ey
          have jl := (List.getElem?_eq_some_iff.mp hnn).1
          have S5 := same_new (o := .tup [.str (S nn), .int (rch pl' ts' nn)]) S4 nT
          have k5 := TK.new (o := .tup [.str (S nn), .int (rch pl' ts' nn)]) nT
          have hD5 := same_new (o := .tup [.str (S nn), .int (rch pl' ts' nn)]) (Same.refl H') nT _ _ hD
          have hT : (upd H' T2 (.tup [.str (S nn), .int (rch pl' ts' nn)])) T2 = some (.tup [.str (S nn), .int (rch pl' ts' nn)]) := upd_same
          generalize upd H' T2 (.tup [.str (S nn), .int (rch pl' ts' nn)]) = H5 at S5 k5 hD5 hT
          refine ⟨T2, _, rfl, SqT.of hT, rfl, _, _, rfl, _, _, rfl, rfl, ?_⟩
          refine ⟨_, rfl, .inl ⟨rfl, _, SqL.of hD5⟩, ?_⟩
          refine ⟨_, rfl, _, rfl, _, rfl, _, _, rfl, rfl, _, rfl, _, _, rfl, rfl, _, _, rfl, _, rfl, _, rfl, (by show 3 ≤ sizeLine; decide), fun g ng => ?_⟩
          have S6 := same_new (o := .tup [.int (mx2 (insN pl pl' ts ts') (rch pl ts nm + k + rch pl' ts' nn)), .str (S nm), .str (S nn)]) S5 ng
          have hD6 := same_new (o := .tup [.int (mx2 (insN pl pl' ts ts') (rch pl ts nm + k + rch pl' ts' nn)), .str (S nm), .str (S nn)]) (Same.refl H5) ng _ _ hD5
          have hg : (upd H5 g (.tup [.int (mx2 (insN pl pl' ts ts') (rch pl ts nm + k + rch pl' ts' nn)), .str (S nm), .str (S nn)])) g = some (.tup [.int (mx2 (insN pl pl' ts ts') (rch pl ts nm + k + rch pl' ts' nn)), .str (S nm), .str (S nn)]) := upd_same
          have wl := DtAll.len hW
          rw [List.length_map, List.length_append, joinsOf_len, List.length_map, List.length_take, List.length_take] at wl
          have wl2 : ws.length ≤ 2000 := by
            have h1 : min i pl.length * pl'.length ≤ 40 * 40 := Nat.mul_le_mul (by omega) l2
            omega
          have k6 := k5.trans (TK.new (o := .tup [.int (mx2 (insN pl pl' ts ts') (rch pl ts nm + k + rch pl' ts' nn)), .str (S nm), .str (S nn)]) ng)
          have g1' := (k6.trans (TK.mut (o := .lst (ws ++ [.ref g])) hD6)).tup _ _ g1
          have g2' := (k6.trans (TK.mut (o := .lst (ws ++ [.ref g])) hD6)).tup _ _ g2
          have hg' := (TK.mut (o := .lst (ws ++ [.ref g])) hD6).tup _ _ hg
          have hW' := DtAll.keep (k6.trans (TK.mut (o := .lst (ws ++ [.ref g])) hD6)) hW
          refine ⟨D, ws, _, rfl, rfl, hD6, sz_lt (by omega), ?_⟩
          refine ⟨_, _, ws ++ [.ref g], rfl, same_put S6 nD0, g1', g2', upd_same, ?_⟩
          rw [ex2, List.map_append (l₁ := pl'.take j), ← List.append_assoc, List.map_append (l₂ := List.map _ [nn])]
          exact DtAll.app hW' (.cons (.tup hg' (.cons (.int _) (.cons (.str _) (.cons (.str _) .nil)))) .nil)
        · obtain ⟨y9, y10, ws, rfl, S4, g1, g2, hD, hW⟩ := hP
          rw [List.length_map, List.length_map, List.take_length] at hW
          exact ⟨_, _, _, _, ws, rfl, S4, g1, g2, hD, hW⟩
      · obtain ⟨x7, x8, x9, x10, ws, rfl, S4, g1, g2, hD, hW⟩ := hP
        rw [List.length_map, List.length_map, List.take_length] at hW
        exact ⟨x7, x8, x9, x10, ws, rfl, S4, hD, hW⟩
end
end Far

namespace Far
open PySem PySem.Spec PyProof.Rows L2 LamX
open C8 (pss_cut tCut)
open SX (S)
/-! ### what stands but for tables -/
theorem TK.ofN {H H' : Hp} (e : ExtN H H') : TK H H' := ⟨fun a xs h => e _ _ h (fun ps z => by cases z), fun a o u h => e _ _ h (fun ps z => by cases z)⟩
open Classical in
/-- the first item of the tuple at y -/
noncomputable def fstK (H : Hp) (y : V) : Int := if h : ∃ n, ∃ t zs, y = V.ref t ∧ H t = some (.tup (.int n :: zs)) then h.choose else 0
theorem fstK_is {H : Hp} {t : Addr} {n : Int} {zs : List V} (h : H t = some (.tup (.int n :: zs))) : fstK H (.ref t) = n := by
  have q : ∃ n, ∃ t' zs, V.ref t = V.ref t' ∧ H t' = some (.tup (.int n :: zs)) := ⟨n, t, zs, rfl, h⟩
  unfold fstK
  rw [dif_pos q]
  obtain ⟨t', zs', e, h'⟩ := q.choose_spec
  cases e
  rw [h] at h'
  cases h'
  rfl
/-- a def whose code object stands at c -/
structure FunC (K : PySem.W.Frag) (x qual : Str) (st : Stmt) (f : Addr) (fd : FuncData) (c : Addr) : Prop where
  ex : ∃ (oc : Value) (od : Option Addr) (kV doc pm : Value) (an : Option Addr) (ct : Value) (osl : Array (Option Value)),
    fd = PySem.W.fnOf x qual (defArgs st) (defBody st) (defScope st) .none kV doc pm an (.ref c) ct ∧ K.lookup f = some ⟨oc, od, .func fd, osl⟩ ∧ PySem.W.codeIn K (.ref c) qual = true
section
variable {P : Program} {w : World} {K : PySem.W.Frag} {mg : Str → Option Value} {base : Heap}
theorem FunC.ok {x qual : Str} {st : Stmt} {f c : Addr} {fd : FuncData} {N ps : List Str} {k : Nat} {sp : Sp} (F : FunC K x qual st f fd c) (S : FnScope N ps (defScope st)) (len : ∀ vs H Q E, sp vs H Q E → vs.length = ps.length)
    (hbody : ∀ (A : Around) (outer : List Env) (s : Shared) (H : Hp) (vs : List V) (Q : VK) (E : XK), Room k (A.deeper (envOfC qual (defScope st) s.heap.objs.size f (.ref c))) → sp vs H Q E →
      ∃ t, PSs (cxOf CX0 P w K mg base N qual (defScope st) f (.ref c) A outer s H E).nox (defBody st) t ∧ t { nx := fun _ H' => Q .non H', rt := Q } (start N vs) H) : FnOk P w K mg base CX0 (k + 1) f fd ps sp := by
  obtain ⟨oc, od, kV, doc, pm, an, ct, osl, rfl, lk, hcd⟩ := F.ex
  refine fn_of lk hcd S len fun A outer s H vs Q E hr hsp => ?_
  obtain ⟨t, h, q⟩ := hbody A outer s H vs Q E hr hsp
  exact ⟨t, h.nox, q⟩
theorem FunC.okX {x qual : Str} {st : Stmt} {f c : Addr} {fd : FuncData} {N ps : List Str} {k : Nat} {sp : Sp} (F : FunC K x qual st f fd c) (S : FnScope N ps (defScope st)) (len : ∀ vs H Q E, sp vs H Q E → vs.length = ps.length)
    (hbody : ∀ (A : Around) (outer : List Env) (s : Shared) (H : Hp) (vs : List V) (Q : VK) (E : XK), Room k (A.deeper (envOfC qual (defScope st) s.heap.objs.size f (.ref c))) → sp vs H Q E →
      ∃ t, PSs (cxOf (L2.CX P w) P w K mg base N qual (defScope st) f (.ref c) A outer s H E) (defBody st) t ∧ t { nx := fun _ H' => Q .non H', rt := Q } (start N vs) H) : FnOk P w K mg base (L2.CX P w) (k + 1) f fd ps sp := by
  obtain ⟨oc, od, kV, doc, pm, an, ct, osl, rfl, lk, hcd⟩ := F.ex
  exact fn_of lk hcd S len fun A outer s H vs Q E hr hsp => hbody A outer s H vs Q E hr hsp
end
theorem dt_tri {H : Hp} {v : V} {x : Tri} (h : Dt H v (triD x)) : ∃ t : Addr, v = .ref t ∧ H t = some (.tup [.int x.1, .str (S x.2.1), .str (S x.2.2)]) := by
  obtain ⟨t, xs, rfl, ht, hs⟩ := dt_tup h fun _ => ⟨.int x.1, by simp, fun l z => nomatch z⟩
  cases hs with
  | cons h1 hr =>
    cases hr with
    | cons h2 hr =>
      cases hr with
      | cons h3 hr =>
        cases hr
        cases h1
        cases h2
        cases h3
        exact ⟨t, rfl, ht⟩
/-- the first of those with the least f -/
def FL (l : List Tri) (f : Tri → Int) (x : Tri) : Prop := ∃ i : Nat, l[i]? = some x ∧ (∀ (j : Nat) (z : Tri), l[j]? = some z → f x ≤ f z) ∧ ∀ (j : Nat) (z : Tri), j < i → l[j]? = some z → f x < f z
theorem fl_of {H : Hp} {ws : List V} {ps : List Tri} (h : DtAll H ws (ps.map triD)) (g : Int → Int) {y : V} (fl : FirstLeast ws (fun z => g (fstK H z)) y) : ∃ x, FL ps (fun z => g z.1) x ∧ Dt H y (triD x) := by
  have at_ : ∀ (j : Nat) (x : Tri), ps[j]? = some x → ∃ v, ws[j]? = some v ∧ Dt H v (triD x) := fun j x hx => by
    have hl := DtAll.len h
    rw [List.length_map] at hl
    have jl := (List.getElem?_eq_some_iff.mp hx).1
    have hv : ws[j]? = some (ws[j]'(by omega)) := List.getElem?_eq_getElem (by omega)
    obtain ⟨d, hd, hv'⟩ := DtAll.get h hv
    rw [List.getElem?_map, hx] at hd
    cases hd
    exact ⟨_, hv, hv'⟩
  have key : ∀ (v : V) (x : Tri), Dt H v (triD x) → fstK H v = x.1 := fun v x hx => by
    obtain ⟨u, rfl, hu⟩ := dt_tri hx
    exact fstK_is hu
  obtain ⟨i, hi, all, bef⟩ := fl
  obtain ⟨d, hd, hy⟩ := DtAll.get h hi
  rw [List.getElem?_map] at hd
  cases ex : ps[i]? with
  | none => rw [ex] at hd; cases hd
  | some x =>
    rw [ex] at hd
    cases hd
    refine ⟨x, ⟨i, ex, fun j z hz => ?_, fun j z hj hz => ?_⟩, hy⟩
    · obtain ⟨v, hv, hvd⟩ := at_ j z hz
      have := all j v hv
      dsimp only at this ⊢
      rw [key _ _ hy, key _ _ hvd] at this
      exact this
    · obtain ⟨v, hv, hvd⟩ := at_ j z hz
      have := bef j v hj hv
      dsimp only at this ⊢
      rw [key _ _ hy, key _ _ hvd] at this
      exact this
theorem fst_keys {H : Hp} {ws : List V} {ps : List Tri} (h : DtAll H ws (ps.map triD)) : ∀ y ∈ ws, ∃ t zs, y = V.ref t ∧ H t = some (.tup (.int (fstK H y) :: zs)) := fun y hy => by
  obtain ⟨i, hi⟩ := List.getElem?_of_mem hy
  obtain ⟨d, hd, hv⟩ := DtAll.get h hi
  rw [List.getElem?_map] at hd
  cases ex : ps[i]? with
  | none => rw [ex] at hd; cases hd
  | some x =>
    rw [ex] at hd
    cases hd
    obtain ⟨u, rfl, hu⟩ := dt_tri hv
    exact ⟨u, _, rfl, by rw [fstK_is hu]; exact hu⟩
structure TxtB (mg : Str → Option Value) : Prop where
  min : mg "min" = none
  max : mg "max" = none
abbrev s_best_join : Stmt := topS 14
abbrev N_best_join : List Str := ["one", "other", "length"]
theorem sc_best_join : FnScope N_best_join ["one", "other", "length"] (defScope s_best_join) := ⟨rfl, rfl, rfl, by decide +kernel, rfl, by decide +kernel, by decide +kernel⟩
abbrev s_worst_join : Stmt := topS 15
abbrev N_worst_join : List Str := ["one", "other", "length"]
theorem sc_worst_join : FnScope N_worst_join ["one", "other", "length"] (defScope s_worst_join) := ⟨rfl, rfl, rfl, by decide +kernel, rfl, by decide +kernel, by decide +kernel⟩
def qB : Str := ("best_join" : Str) ++ ".<locals>." ++ "<lambda>"
def qW : Str := ("worst_join" : Str) ++ ".<locals>." ++ "<lambda>"
section
variable {P : Program} {w : World} {K : PySem.W.Frag} {mg : Str → Option Value} {base : Heap} {J Pb Pw : Addr}
def spBest (J Pb Pw : Addr) (g : Int → Int) : Sp := fun vs H Q E => ∃ (v v' : V) (pl pl' : List Nm) (ts ts' : List Tie) (k : Int), vs = [v, v', .int k] ∧ Dt H v (treeD pl ts) ∧ Dt H v' (treeD pl' ts') ∧ (∀ x ∈ pl, NameOk x) ∧ pl.length ≤ 40 ∧ pl'.length ≤ 40 ∧ Tabs [(Pb, qB), (Pw, qW)] H ∧
  ((∀ x ∈ pl, x ∉ pl') → Fine pl ts ∧ Fine pl' ts' ∧ ∀ (H' : Hp) (r : V) (x : Tri), ExtN H H' → Tabs [(Pb, qB), (Pw, qW)] H' → FL (joinsOf pl pl' ts ts' k pl) (fun z => g z.1) x → Dt H' r (triD x) → Q r H') ∧
  ((∃ x ∈ pl, x ∈ pl') → ∀ H' : Hp, Same H H' → E (.ref J) none H')
theorem ok_best {f c : Addr} {fd : FuncData} (F : FunC K "best_join" "best_join" s_best_join f fd c) (T : TxtB mg) (ne : Pb ≠ Pw) (TB : TabB base mg c Pb) (C_all_joins : CalX P w K mg base 5 "_all_joins" (spAllJ J)) : FnOk P w K mg base (L2.CX P w) 6 f fd ["one", "other", "length"] (spBest J Pb Pw id) := by
  refine F.okX sc_best_join (fun vs H Q E h => ?_) (fun A outer s H vs Q E hr h => ?_)
  · obtain ⟨v, v', pl, pl', ts, ts', k, rfl, _⟩ := h
    rfl
  · obtain ⟨v, v', pl, pl', ts, ts', k, rfl, hd, hd', oks, l1, l2, hT, q, qE⟩ := h
    have hmB : (Pb, qB) ∈ [(Pb, qB), (Pw, qW)] := List.mem_cons_self
    have huB : ∀ p ∈ [(Pb, qB), (Pw, qW)], p.1 = Pb → p.2 = qB := fun p hp e => by
      rcases List.mem_cons.mp hp with z | z
      · rw [z]
      · rw [List.mem_singleton.mp z] at e
        exact absurd e.symm ne
    refine ⟨_, (pss_one (ps_ret (pe_callL TB (by rfl) hmB huB (cr_minLam (y := "join") (g := id) (hr.mono (by decide)) (by exact ⟨rfl, rfl, rfl, by decide, by decide, rfl⟩) body_fst (fun _ _ _ _ _ => rfl)) (by rfl) T.min bt_min (pa_cons (pe_cX (takes_of rfl rfl rfl rfl) C_all_joins hr (by decide) rfl (pa_cons (pv 0) (pa_cons (pv 1) (pa_cons (pv 2) pa_nil)))) pa_nil) (by rfl) (by decide)))), ?_⟩
    refine ⟨_, rfl, _, rfl, _, rfl, v, v', pl, pl', ts, ts', k, rfl, hd, hd', oks, l1, l2, fun dis => ⟨(q dis).1, (q dis).2.1, fun H1 D ws S1 nD hD hW => ?_⟩, fun sh H' sm => qE sh H' sm⟩
    obtain ⟨F1, F2, q⟩ := q dis
    have jl : 0 < (joinsOf pl pl' ts ts' k pl).length := by
      rw [joinsOf_len]
      exact Nat.mul_pos (List.length_pos_iff.mpr F1.ne) (List.length_pos_iff.mpr F2.ne)
    refine ⟨hT.ext S1, fun H2 e2 T2 => ?_⟩
    have hW2 := DtAll.keep (TK.ofN e2) hW
    have wl := DtAll.len hW
    rw [List.length_map] at wl
    refine ⟨D, ws, fstK H2, rfl, SqL.of (e2 _ _ hD (fun ps z => by cases z)), by omega, fst_keys hW2, fun y fl => ?_⟩
    obtain ⟨x, hx, hy⟩ := fl_of hW2 id fl
    exact q H2 y x (fun b o h n => e2 b o (S1 b o h) n) T2 hx hy
theorem ok_worst {f c : Addr} {fd : FuncData} (F : FunC K "worst_join" "worst_join" s_worst_join f fd c) (T : TxtB mg) (ne : Pb ≠ Pw) (TB : TabB base mg c Pw) (C_all_joins : CalX P w K mg base 5 "_all_joins" (spAllJ J)) : FnOk P w K mg base (L2.CX P w) 6 f fd ["one", "other", "length"] (spBest J Pb Pw fun i => -i) := by
  refine F.okX sc_worst_join (fun vs H Q E h => ?_) (fun A outer s H vs Q E hr h => ?_)
  · obtain ⟨v, v', pl, pl', ts, ts', k, rfl, _⟩ := h
    rfl
  · obtain ⟨v, v', pl, pl', ts, ts', k, rfl, hd, hd', oks, l1, l2, hT, q, qE⟩ := h
    have hmW : (Pw, qW) ∈ [(Pb, qB), (Pw, qW)] := List.mem_cons_of_mem _ List.mem_cons_self
    have huW : ∀ p ∈ [(Pb, qB), (Pw, qW)], p.1 = Pw → p.2 = qW := fun p hp e => by
      rcases List.mem_cons.mp hp with z | z
      · rw [z] at e
        exact absurd e ne
      · rw [List.mem_singleton.mp z]
    refine ⟨_, (pss_one (ps_ret (pe_callL TB (by rfl) hmW huW (cr_maxLam (y := "join") (g := id) (hr.mono (by decide)) (by exact ⟨rfl, rfl, rfl, by decide, by decide, rfl⟩) body_fst (fun _ _ _ _ _ => rfl)) (by rfl) T.max bt_max (pa_cons (pe_cX (takes_of rfl rfl rfl rfl) C_all_joins hr (by decide) rfl (pa_cons (pv 0) (pa_cons (pv 1) (pa_cons (pv 2) pa_nil)))) pa_nil) (by rfl) (by decide)))), ?_⟩
    refine ⟨_, rfl, _, rfl, _, rfl, v, v', pl, pl', ts, ts', k, rfl, hd, hd', oks, l1, l2, fun dis => ⟨(q dis).1, (q dis).2.1, fun H1 D ws S1 nD hD hW => ?_⟩, fun sh H' sm => qE sh H' sm⟩
    obtain ⟨F1, F2, q⟩ := q dis
    have jl : 0 < (joinsOf pl pl' ts ts' k pl).length := by
      rw [joinsOf_len]
      exact Nat.mul_pos (List.length_pos_iff.mpr F1.ne) (List.length_pos_iff.mpr F2.ne)
    refine ⟨hT.ext S1, fun H2 e2 T2 => ?_⟩
    have hW2 := DtAll.keep (TK.ofN e2) hW
    have wl := DtAll.len hW
    rw [List.length_map] at wl
    refine ⟨D, ws, fstK H2, rfl, SqL.of (e2 _ _ hD (fun ps z => by cases z)), by omega, fst_keys hW2, fun y fl => ?_⟩
    obtain ⟨x, hx, hy⟩ := fl_of hW2 (fun i => -i) fl
    exact q H2 y x (fun b o h n => e2 b o (S1 b o h) n) T2 hx hy
end
end Far

namespace Far
open PySem PySem.Spec PyProof.Rows L2
/-! ### dicts with flat values: ==, != (all the same, or of another length) -/
theorem hits_flat {A : Around} {s : Shared} {ls : List (Key × V)} {vb : List (Key × Value)} (rb : KV ls vb) {ks : List (Key × V)} {va : List (Key × Value)}
    (ra : KV ks va) : (∀ p ∈ ks, valV ls p.1 = some p.2 ∧ flatB p.2 = true) → PySem.W.KeqHits A s vb va true := by
  unfold KV at ra
  induction ra with
  | nil => intro _; exact .nil
  | @cons p q ps qs h t k =>
    intro hp
    obtain ⟨h1, h2⟩ := h
    obtain ⟨e, f⟩ := hp p List.mem_cons_self
    have rr : RelO (some p.2) (valueAt vb p.1) := by rw [← e]; exact rb.val p.1
    obtain ⟨y, hy, ry⟩ := rr.some_of
    obtain ⟨key, v⟩ := q
    have h1' : p.1 = key := h1
    rw [h1'] at hy
    show PySem.W.KeqHits A s vb ((key, v) :: qs) (true && true)
    exact .hit hy (eqAt_same h2 ry f) (k fun p' hm => hp p' (List.mem_cons_of_mem _ hm))
def rDK (g : Bool → Bool) : V → V → Hp → VK → Prop := fun x y H Q => ∃ a b ks ls r, x = .ref a ∧ y = .ref b ∧ H a = some (.dK ks) ∧ H b = some (.dK ls) ∧
  ((r = true ∧ ks.length = ls.length ∧ ∀ p ∈ ks, valV ls p.1 = some p.2 ∧ flatB p.2 = true) ∨ (r = false ∧ ks.length ≠ ls.length)) ∧ Q (.bl (g r)) H
theorem op_eqDK {X : Cx} (hu : X.A.units + 64 < cLine) : OpR X (compareOp .Eq) (rDK id) := by
  intro pins s σ H x y v u Q I rx ry h
  obtain ⟨a, b, ks, ls, r, rfl, rfl, ha, hb, hc, q⟩ := h
  cases (show v = Value.ref a from rx)
  cases (show u = Value.ref b from ry)
  obtain ⟨_, ya, va, ra, da⟩ := (show ObjOk X.prog X.w H s.heap a (.dK ks) from I.hok a _ ha)
  obtain ⟨_, yb, vb, rb, db⟩ := (show ObjOk X.prog X.w H s.heap b (.dK ls) from I.hok b _ hb)
  refine PySem.W.keq_eq (knd := mixKind X.prog X.w) (r := true) ya yb da db (by omega) (fun e => ?_) ?_
  · rcases hc with ⟨_, _, h⟩ | ⟨_, n⟩
    · exact hits_flat rb ra h
    · exact absurd (by rw [ra.length, rb.length]; exact e) n
  · have e : (va.length == vb.length && true) = r := by
      rw [Bool.and_true, ← ra.length, ← rb.length]
      rcases hc with ⟨h1, h2, _⟩ | ⟨h1, h2⟩
      · rw [h1, h2]; simp
      · rw [h1]; simpa using h2
    rw [e]
    exact ⟨.bl r, H, I, rfl, q⟩
theorem op_neDK {X : Cx} (hu : X.A.units + 64 < cLine) : OpR X (compareOp .NotEq) (rDK not) := by
  intro pins s σ H x y v u Q I rx ry h
  obtain ⟨a, b, ks, ls, r, rfl, rfl, ha, hb, hc, q⟩ := h
  cases (show v = Value.ref a from rx)
  cases (show u = Value.ref b from ry)
  obtain ⟨_, ya, va, ra, da⟩ := (show ObjOk X.prog X.w H s.heap a (.dK ks) from I.hok a _ ha)
  obtain ⟨_, yb, vb, rb, db⟩ := (show ObjOk X.prog X.w H s.heap b (.dK ls) from I.hok b _ hb)
  refine PySem.W.keq_ne (knd := mixKind X.prog X.w) (r := true) ya yb da db (by omega) (fun e => ?_) ?_
  · rcases hc with ⟨_, _, h⟩ | ⟨_, n⟩
    · exact hits_flat rb ra h
    · exact absurd (by rw [ra.length, rb.length]; exact e) n
  · have e : (va.length == vb.length && true) = r := by
      rw [Bool.and_true, ← ra.length, ← rb.length]
      rcases hc with ⟨h1, h2, _⟩ | ⟨h1, h2⟩
      · rw [h1, h2]; simp
      · rw [h1]; simpa using h2
    rw [e]
    exact ⟨.bl (!r), H, I, rfl, q⟩
theorem bt_sorted : bootBuiltins ("sorted" : Str) = some (.builtin "sorted") := by decide +kernel
theorem bt_dict : bootBuiltins ("dict" : Str) = some (.type "dict") := by decide +kernel
theorem lay_ints : ∀ ls : List Int, PyData.canLayAll0 (ls.map PyData.int) = true
  | [] => rfl
  | x :: r => by
    show (PyData.canLay0 (.int x) && PyData.canLayAll0 (r.map PyData.int)) = true
    rw [lay_ints r]
    rfl
theorem dep_ints : ∀ ls : List Int, PyData.depthAll (ls.map PyData.int) ≤ 1
  | [] => Nat.zero_le _
  | x :: r => by
    show max (PyData.depth (.int x)) (PyData.depthAll (r.map PyData.int)) ≤ 1
    have ih := dep_ints r
    have e : PyData.depth (.int x) = 0 := rfl
    rw [e]
    omega
theorem shaped_intL (ls : List Int) : SeqAt.shaped (.list (ls.map PyData.int)) = true := by
  show (PyData.canLayAll0 (ls.map PyData.int) && decide (PyData.depthAll (ls.map PyData.int) + 1 ≤ 64)) = true
  have := dep_ints ls
  rw [lay_ints, decide_eq_true (by omega)]
  rfl
theorem eqv_ints : ∀ ls : List Int, (PyData.list (ls.map PyData.int)).eqv (.list (ls.map PyData.int)) = true
  | [] => by decide +kernel
  | x :: r => by
    have ih := eqv_ints r
    show ((x == x) && _) = true
    simp
    exact ih
theorem dpI (K : PySem.W.Frag) (H : Hp) : ∀ ls : List Int, DpAll K H (ls.map V.int) (ls.map PyData.int)
  | [] => .nil
  | x :: r => .cons (.int _) (dpI K H r)
/-! ### counting into a dict -/
def dd (s : List Int) : List Int := s.foldl (fun ks x => if x ∈ ks then ks else ks ++ [x]) []
theorem dd_snoc (s : List Int) (x : Int) : dd (s ++ [x]) = if x ∈ dd s then dd s else dd s ++ [x] := by
  unfold dd
  rw [List.foldl_append]
  rfl
def ikm (ks : List Int) (f : Int → V) : List (Key × V) := ks.map fun n => (Sum.inl n, f n)
theorem ikm_val (f : Int → V) (x : Int) : ∀ ks : List Int, valV (ikm ks f) (Sum.inl x) = if x ∈ ks then some (f x) else none
  | [] => rfl
  | a :: r => by
    show valV ((Sum.inl a, f a) :: ikm r f) (Sum.inl x) = _
    by_cases e : a = x
    · subst e
      rw [valV_pos rfl, if_pos (List.mem_cons_self ..)]
    · rw [valV_neg (fun z => e (Sum.inl.inj z)), ikm_val f x r]
      have : (x ∈ a :: r) ↔ x ∈ r := by
        rw [List.mem_cons]
        exact ⟨fun h => h.elim (fun z => absurd z.symm e) id, .inr⟩
      simp only [this]
theorem ikm_put (f : Int → V) (x : Int) (v : V) (ks : List Int) : putK (ikm ks f) (Sum.inl x) v = ikm (if x ∈ ks then ks else ks ++ [x]) (fun z => if z = x then v else f z) := by
  unfold putK
  rw [valV_any, ikm_val]
  by_cases h : x ∈ ks
  · rw [if_pos h, if_pos h, if_pos (by rfl)]
    unfold ikm
    rw [List.map_map]
    refine List.map_congr_left fun a _ => ?_
    show (if (Sum.inl a : Key) = Sum.inl x then ((Sum.inl a : Key), v) else (Sum.inl a, f a)) = (Sum.inl a, if a = x then v else f a)
    by_cases e : a = x
    · rw [if_pos (by rw [e]), if_pos e]
    · rw [if_neg (fun z => e (Sum.inl.inj z)), if_neg e]
  · rw [if_neg h, if_neg h, if_neg (by simp)]
    unfold ikm
    rw [List.map_append]
    refine congr (congrArg _ (List.map_congr_left fun a ha => ?_)) ?_
    · show (Sum.inl a, f a) = (Sum.inl a, if a = x then v else f a)
      rw [if_neg (fun (z : a = x) => h (z ▸ ha))]
    · show [(Sum.inl x, v)] = [(Sum.inl x, if x = x then v else f x)]
      rw [if_pos rfl]
theorem ikm_cong {f g : Int → V} {ks : List Int} (h : ∀ n ∈ ks, f n = g n) : ikm ks f = ikm ks g := List.map_congr_left fun a ha => by rw [h a ha]
theorem ikm_len (ks : List Int) (f : Int → V) : (ikm ks f).length = ks.length := by unfold ikm; rw [List.length_map]
theorem dd_len (s : List Int) : (dd s).length ≤ s.length := by
  have : ∀ r : List Int, ∀ t : List Int, t.reverse = r → (dd t).length ≤ t.length := by
    intro r
    induction r with
    | nil =>
      intro t e
      rw [List.reverse_eq_nil_iff.mp e]
      exact Nat.le_refl _
    | cons x r ih =>
      intro t e
      have e2 : t = r.reverse ++ [x] := by rw [← List.reverse_reverse t, e, List.reverse_cons]
      subst e2
      have := ih r.reverse (List.reverse_reverse r)
      rw [dd_snoc, List.length_append, List.length_singleton]
      split
      · omega
      · rw [List.length_append, List.length_singleton]
        omega
  exact this s.reverse s rfl
theorem dd_mem (s : List Int) : ∀ x, x ∈ dd s ↔ x ∈ s := by
  have : ∀ r : List Int, ∀ t : List Int, t.reverse = r → ∀ x, x ∈ dd t ↔ x ∈ t := by
    intro r
    induction r with
    | nil =>
      intro t e
      rw [List.reverse_eq_nil_iff.mp e]
      intro x
      exact Iff.rfl
    | cons y r ih =>
      intro t e
      have e2 : t = r.reverse ++ [y] := by rw [← List.reverse_reverse t, e, List.reverse_cons]
      subst e2
      intro x
      have := ih r.reverse (List.reverse_reverse r)
      rw [dd_snoc]
      split
      · rename_i h
        rw [this x, List.mem_append, List.mem_singleton]
        exact ⟨.inl, fun z => z.elim id fun z => by rw [z]; exact (this y).mp h⟩
      · rw [List.mem_append, List.mem_append, this x]
  exact this s.reverse s rfl
def cntF (s : List Int) (n : Int) : V := .int ((s.countP fun z => z == n : Nat) : Int)
/-- one more of x -/
theorem cnt_step (t : List Int) (x : Int) : putK (ikm (dd t) (cntF t)) (Sum.inl x) (.int (((t.countP fun z => z == x : Nat) : Int) + 1)) = ikm (dd (t ++ [x])) (cntF (t ++ [x])) := by
  rw [ikm_put, ← dd_snoc]
  refine ikm_cong fun n _ => ?_
  unfold cntF
  rw [List.countP_append]
  by_cases e : n = x
  · rw [if_pos e, e]
    simp
  · rw [if_neg e]
    have : ([x].countP fun z => z == n) = 0 := by
      rw [List.countP_cons]
      simp
      exact fun z => e z.symm
    rw [this, Nat.add_zero]
/-- all of x at once -/
theorem all_step (s t : List Int) (x : Int) : putK (ikm (dd t) (cntF s)) (Sum.inl x) (cntF s x) = ikm (dd (t ++ [x])) (cntF s) := by
  rw [ikm_put, ← dd_snoc]
  refine ikm_cong fun n _ => ?_
  by_cases e : n = x
  · rw [if_pos e, e]
  · rw [if_neg e]
theorem cnt_none {t : List Int} {x : Int} (h : x ∉ dd t) : (t.countP fun z => z == x) = 0 := by
  rw [List.countP_eq_zero]
  intro a ha z
  have : a = x := by simpa using z
  exact h ((dd_mem t x).mpr (this ▸ ha))
theorem sorted_one {a b : List Int} (p : a.Perm b) (ha : a.Pairwise (· ≤ ·)) (hb : b.Pairwise (· ≤ ·)) : a = b := List.Perm.eq_of_pairwise (fun x y _ _ h1 h2 => Int.le_antisymm h1 h2) ha hb p
end Far

namespace Far
open PySem PySem.Spec PyProof.Rows L2
theorem kv_vals : ∀ {kvs : List (Key × V)} {vs : List (Key × Value)}, KV kvs vs → Vals (kvs.map (·.2)) (vs.map (·.2))
  | [], [], .nil => .nil
  | _ :: _, _ :: _, .cons h t => .cons h.2 (kv_vals t)
/-- list(d.values()) -/
def tListVals (te : TE) : TE := fun σ H Q => te σ H fun x H1 => ∃ (d : Addr) (kvs : List (Key × V)), x = .ref d ∧ H1 d = some (.dK kvs) ∧ ∀ p, H1 p = none → Q (.ref p) (upd H1 p (.lst (kvs.map (·.2))))
theorem pe_listVals {X : Cx} {e : Expr} {te : TE} {p pos apos cpos : Pos} (hc : X.calm = true) (he : PE X e te) (hg : Gl X "list") (hm : X.mg "list" = none) (hv : bootBuiltins "list" = some (.type "list"))
    (hbase : attributeBase e "values" X.env (eval e X.env) = eval e X.env := by rfl) (hline : (apos.endLine == cpos.line) = true := by rfl)
    (hs : starEach [.Call (.Attribute e "values" apos) [] [] cpos] X.env = (false, eval (.Call (.Attribute e "values" apos) [] [] cpos) X.env) :: starEach [] X.env := by rfl) :
    PE X (.Call (.Name "list" p) [.Call (.Attribute e "values" apos) [] [] cpos] [] pos) (tListVals te) := by
  refine ⟨fun pins s σ H Q I hq => ?_⟩
  refine wpAny_Call_Name_kw (ld_blt I hg hm hv ?_)
  refine PyProof.Rows.callWith_type1 ?_ hs rfl
  rw [hs]
  show wpAny _ _ (spliced ((false, eval (.Call (.Attribute e "values" apos) [] [] cpos) X.env) :: backTo pos (starEach [] X.env))) _ _ s
  refine Calls.spliced_cons ?_
  refine wpAny_Call_method (T := "dict") (id := "dict.values") hbase rfl hline F.plainAttrs_dict F.slot_dict_values F.type_dict_values (thn (he.run pins s σ H _ I hq) fun u s1 ⟨x, H1, I1, rx, d, kvs, ex, hd, q⟩ => ?_)
  subst ex
  obtain rfl : u = Value.ref d := rx
  obtain ⟨hz, hs0, vs, kv, hdo⟩ := I1.hok d _ hd
  obtain ⟨ep, hat⟩ := hdo.dictAt
  have lk : kvs.length = vs.length := Paired.length kv
  have I2 : Inv X pins σ H1 { s1 with heap := s1.heap.push { cls := .type "dict_values", data := .fields #[.ref d] } } := I1.kept (t' := s1.toks) fun b ob q => Heap.get?_push_of_some _ q
  refine ⟨hdo.typeIs, hdo.mapOf.noDict, ?_⟩
  show wpAny _ _ (callWith cpos (.builtin "dict.values") [.ref d] [] []) _ X.xe s1
  refine method_meetsIn F.slot_dict_values F.entry_dict_values rfl (PySem.evalArgs_none ⟨rfl, hdo.typeIs, F.args_dict_values_1 _, _, meets_dict_values (mixKind X.prog X.w) d hs0, ⟨vs, hdo⟩, ?_⟩)
  refine Calls.spliced_nil ?_
  refine PySem.W.kdl_call (PySem.W.kdl_values (knd := mixKind X.prog X.w) (r := s1.heap.objs.size) (d := d) (kvs := vs) (ep := ep)) (I1.ok.hd hc) ⟨⟨_, Heap.get?_push_size _ rfl, rfl, rfl⟩, hat.push _⟩ (by omega) fun h' tk acc c hk hS hacc => ?_
  have ev : acc.toList = vs.map (·.2) := PySem.W.kdl_vals_eq acc.toList (by rw [Array.length_toList]; exact hacc.1) fun j v e => hacc.2 j v (by rw [← Array.getElem?_toList]; exact e)
  exact ⟨.ref _, _, I2.laid (t' := tk) hk (Nat.le_refl _) (show ObjOk X.prog X.w _ _ _ (.lst (kvs.map (·.2))) from ⟨by rw [List.length_map]; exact hz, acc.toList, c, by rw [ev]; exact kv_vals kv, by rw [Array.toArray_toList]; exact hS⟩), rfl, q _ (I2.hok.fresh (Nat.le_refl _))⟩
end Far

namespace Far
open PySem PySem.Spec PyProof.Rows L2
/-! ### enumerate(t), t a tuple -/
theorem meets_enumT {v : Value} {o : Obj} {H : Heap → Prop} (B : Begins v o H) :
    Meets (Builtin.«enumerate.__new__» ⟨[.type "enumerate", v], []⟩) (fun _ R s => H s.heap ∧
      R (.ok (.ret (.ref (s.heap.push o).objs.size))) { s with heap := (s.heap.push o).push { cls := .type "enumerate", data := .fields #[.none, .bool false, .ref s.heap.objs.size, rawInt 0, .none, .none] } }) :=
  .of_wp fun prog w A R s h => by
    obtain ⟨hp, g, d, tk, os⟩ := s; obtain ⟨h1, h⟩ := h
    have hsub := sub_enumerate
    have q1 : ∀ {A' : Around} {E : Value → Shared → Prop} {Q : Value → Shared → Prop}, Q (.ref hp.objs.size) ⟨hp.push o, g, d, tk, os⟩ → wpAny (model prog w) A' (pyIter v) Q E ⟨hp, g, d, tk, os⟩ :=
      fun q => B.iter prog w _ _ ⟨hp, g, d, tk, os⟩ _ h1 q
    wp_walk using q1
    refine wpAny_stack_any fun st => wpAny_pure ?_
    split
    · rename_i c _ _ _ _ _
      cases (c == Value.type "enumerate")
      · wp_walk using q1
        exact ⟨_, rfl, h⟩
      · wp_walk using q1
        exact ⟨_, rfl, h⟩
    · wp_walk using q1
      exact ⟨_, rfl, h⟩
theorem enumT_begins {prog : Program} {w : World} {A : Around} {E : Value → Shared → Prop} {s : Shared} {v : Value} {o : Obj} {H : Heap → Prop} {Q : Value → Shared → Prop} (B : Begins v o H) (h1 : H s.heap)
    (h : ∀ h', IsEnum h' (s.heap.objs.size + 1) s.heap.objs.size 0 .none → h'.get? s.heap.objs.size = some o → h'.objs.size = s.heap.objs.size + 2 →
      (∀ b o, s.heap.get? b = some o → h'.get? b = some o) → Q (.ref (s.heap.objs.size + 1)) { s with heap := h' }) :
    wpAny (model prog w) A (call (.type "enumerate") [v]) Q E s := by
  refine callType_new F.called_enumerate (by decide) (F.typeCall_enumerate_1 _) (F.newCall_enumerate_1 _) (fun obj => F.args_object_init_2 obj _) F.entry_enumerate_new
    (meets_enumT B) ⟨h1, ?_⟩
  have hz : (s.heap.push o).objs.size = s.heap.objs.size + 1 := Heap.size_push ..
  show _ ∧ _
  rw [hz]
  have he : IsEnum ((s.heap.push o).push { cls := .type "enumerate", data := .fields #[.none, .bool false, .ref s.heap.objs.size, rawInt 0, .none, .none] }) (s.heap.objs.size + 1) s.heap.objs.size 0 .none := by
    have := Heap.get?_push_size (s.heap.push o) (o := { cls := .type "enumerate", data := .fields #[.none, .bool false, .ref s.heap.objs.size, rawInt 0, .none, .none] }) rfl
    rw [hz] at this; exact this
  refine ⟨⟨_, he, rfl⟩, h _ he (Heap.get?_push_of_some _ (Heap.get?_push_size _ B.free)) (by rw [Heap.size_push, hz]) fun b o x => Heap.get?_push_of_some _ (Heap.get?_push_of_some _ x)⟩
/-- the tuple at a, each item in a new pair with its number -/
def Itne (K : PySem.W.Frag) (a : Addr) : It :=
  ⟨fun i H => ∃ (xs : List V) (x : V), SqT K H a xs ∧ xs[i]? = some x,
   fun i H v H' => ∃ T x, v = .ref T ∧ H T = none ∧ H' = upd H T (.tup [.int (i : Nat), x]) ∧ ∀ xs, SqT K H a xs → xs[i]? = some x,
   fun i H => ∃ xs : List V, SqT K H a xs ∧ xs.length ≤ i⟩
theorem turn_enumT {P : Program} {w : World} {K : PySem.W.Frag} {elts : List Expr} {kk : Nat} {tpos : Pos} (a e it : Addr) :
    Turn P w K (.Tuple elts kk tpos) (Itne K a) [e, it] e (fun i h => (∃ o, IsEnum h e it ((i : Nat) : Int) o) ∧ h.IsTupleIter it a i ∧ e ≠ it ∧ a ≠ it) where
  mem := by simp
  obj := fun i h st b hb => by
    obtain ⟨⟨o', he⟩, ⟨o, ho, hc, hd⟩, _⟩ := st
    rcases (show b = e ∨ b = it by simpa using hb) with rfl | rfl
    · exact ⟨_, he, fun v q => nomatch q⟩
    · exact ⟨o, ho, fun v q => by rw [hd] at q; cases q⟩
  keep := fun i h h' ⟨⟨o, he⟩, hi, hne⟩ k => ⟨⟨o, k e (by simp) _ he⟩, hi.at fun o q => k it (by simp) o q, hne⟩
  item := by
    intro X hP hw hK hc i pins s σ H E I hf st hg
    subst hP hw hK
    obtain ⟨⟨old, he⟩, hit, hne, hna⟩ := st
    obtain ⟨xs, x, hq, hx⟩ := hg
    obtain ⟨its, rv, p, hz⟩ := I.tuple hq
    have p' : s.heap.IsTuple a its.toArray := p
    obtain ⟨u, hu, ru⟩ := rv.get hx
    have hel : e < s.heap.objs.size := Heap.lt_size he
    have hil : it < s.heap.objs.size := by
      obtain ⟨_, q, _⟩ := hit
      exact Heap.lt_size q
    have hea : e ∉ [it, a] := by
      intro hm
      rcases List.mem_cons.mp hm with z | z
      · exact hne z
      · have z := List.mem_singleton.mp z
        obtain ⟨o, m, q, _⟩ := p'
        rw [← z, he] at m
        cases m
        have q : Value.type "enumerate" = Value.type "tuple" := q
        exact absurd q (by decide)
    have hlt : i < its.toArray.size := by
      have := (List.getElem?_eq_some_iff.mp hu).1
      simpa using this
    refine wpAny_pyNext_enum_itemC (Draws.tuple (A := X.A.in1) (I.ok.hd hc) it a hna its.toArray) he ⟨hit, p'⟩ hlt hne hea fun x' h' tk hx' ho hst' hT hsz hk => ?_
    have ex : x' = u := by
      have : its.toArray[i]? = some u := by simpa using hu
      exact Option.some.inj (hx'.symm.trans this)
    subst ex
    refine ⟨_, rfl, wpAny_letOwnedTupleGo_enum (s := { s with heap := h', toks := tk + 1 }) ho fun h2 he2 sb => ?_⟩
    have hT2 : h2.get? s.heap.objs.size = some { cls := .type "tuple", data := .seq #[.int (i : Nat) tk, x'] } := (sb.2 _ (Nat.ne_of_gt hel)).trans hT
    have new : ObjOk X.prog X.w (upd H s.heap.objs.size (.tup [.int (i : Nat), x])) h2 s.heap.objs.size (.tup [.int (i : Nat), x]) :=
      ⟨by show 2 ≤ sizeLine; decide, [.int (i : Nat) tk, x'], .cons ⟨_, rfl⟩ (.cons ru .nil), ⟨_, hT2, rfl, _, rfl⟩⟩
    have I1 : Inv X pins σ (upd H s.heap.objs.size (.tup [.int (i : Nat), x])) { s with heap := h2, toks := tk + 1 } :=
      I.turnedNew (ch := [e, it]) (fun b ob hb q => (sb.2 b (fun z => hb (by simp [z]))).trans (hk b ob (fun z => hb (by simp [z])) (fun z => hb (by simp [z])) q)) hf (Nat.le_refl _) new
    refine ⟨.ref s.heap.objs.size, _, I1, rfl, ⟨_, x, rfl, I.hok.fresh (Nat.le_refl _), rfl, fun ys hy => by rw [I.tuple_inj hy hq]; exact hx⟩, ⟨⟨x', ?_⟩, hst'.1.at fun o q => (sb.2 it (Ne.symm hne)).trans q, hne, hna⟩, fun b hb => ?_⟩
    · rw [show ((i + 1 : Nat) : Int) = (i : Nat) + 1 by omega]
      exact he2
    · have hb' : b < s.heap.objs.size := by
        rcases (show b = e ∨ b = it by simpa using hb) with z | z
        · rw [z]; exact hel
        · rw [z]; exact hil
      rw [upd_ne (Nat.ne_of_lt hb')]
      exact (hf b hb).1
  done := by
    intro X hP hw hK hc i pins s σ H E I hf st hg
    subst hP hw hK
    obtain ⟨⟨old, he⟩, hit, hne, hna⟩ := st
    obtain ⟨xs, hq, hx⟩ := hg
    obtain ⟨its, rv, p, hz⟩ := I.tuple hq
    have p' : s.heap.IsTuple a its.toArray := p
    obtain ⟨f0, f1, f2, f3, f4, f5⟩ := hf it (by simp)
    have hl := rv.length
    have D : Draws X.prog X.w X.A.in1 it [it, a] i (fun _ _ => True) (fun j h => (h.IsTupleIter it a j ∧ h.IsTuple a its.toArray) ∧ j = i) :=
      { live := fun _ _ st => let ⟨o, ho, _⟩ := st.1.1; ⟨o, ho⟩
        frame := fun _ _ _ st hk => ⟨⟨st.1.1.at fun o e => hk it (by simp) o e, st.1.2.at fun o e => hk a (by simp) o e⟩, st.2⟩
        item := fun j _ _ _ hj st _ => absurd st.2 (by omega)
        done := fun s Q E st hE => wpAny_nextOf_tuple_end (I.ok.hd hc) st.1.1 st.1.2 (by simp; omega) hE }
    exact wpAny_pyNext_enum_endD D he ⟨⟨hit, p'⟩, rfl⟩ fun h' eb => ⟨rfl, I.turned (t' := s.toks) (fun b o hb q => eb b o hb q) f0 f1 f3 f4 f5⟩
  self := fun A i s Q E st h => by
    obtain ⟨⟨_, he⟩, _⟩ := st
    exact wpAny_pyIter_enum he h
def iEnumT (K : PySem.W.Frag) (ta : TA) : TI := fun σ H R => ta σ H fun vs H1 => ∃ a xs, vs = [.ref a] ∧ SqT K H1 a xs ∧ R (Itne K a) H1
theorem pi_enumT {X : Cx} {e : Expr} {ta : TA} {p pos tpos : Pos} {elts : List Expr} {kk : Nat} (hg : Gl X "enumerate") (hm : X.mg "enumerate" = none) (ha : PA X [e] ta) (hs : starEach [e] X.env = [(false, eval e X.env)] := by rfl) :
    PI X (.Tuple elts kk tpos) (.Call (.Name "enumerate" p) [e] [] pos) (iEnumT X.K ta) := by
  refine ⟨fun pins s σ H R I h => ?_⟩
  refine Call_ (ld_blt I hg hm boot_enumerate (PyProof.Rows.callWith_type1 (thn (ha.run pos pins s σ H _ I h) fun us s1 ⟨vs, H1, I1, r1, q1⟩ => ?_) hs rfl))
  obtain ⟨a, xs, ex, hq, q⟩ := q1
  subst ex
  cases r1 with
  | cons r rr =>
    cases rr
    cases r
    obtain ⟨its, rv, p', hz⟩ := I1.tuple hq
    have p2 : s1.heap.IsTuple a its.toArray := p'
    refine enumT_begins (begins_tuple a its.toArray) p2 fun h' he hit hsz hk => wpAny_pyIter_enum he ?_
    have I2 : Inv X pins σ H1 { s1 with heap := h' } := I1.kept (t' := s1.toks) hk
    have hal : a < s1.heap.objs.size := by
      obtain ⟨o, m, _⟩ := p2
      exact Heap.lt_size m
    refine ⟨s1.heap.objs.size + 1, [s1.heap.objs.size + 1, s1.heap.objs.size], _, _, H1, rfl, I2, turn_enumT a (s1.heap.objs.size + 1) s1.heap.objs.size, ⟨⟨.none, by simpa using he⟩, ⟨_, hit, rfl, rfl⟩, Nat.succ_ne_self _, Nat.ne_of_lt hal⟩, fun b hb => ?_, q⟩
    have hle : s1.heap.objs.size ≤ b := by
      rcases (show b = s1.heap.objs.size + 1 ∨ b = s1.heap.objs.size by simpa using hb) with z | z
      · rw [z]; exact Nat.le_add_right _ _
      · rw [z]; exact Nat.le_refl _
    exact I1.fpOk hle (I1.hok.fresh hle)
end Far

namespace Far
open PySem PySem.Spec PyProof.Rows L2
open C8 (pss_cut tCut)
open SX (S)
theorem for_enumT {K : PySem.W.Frag} {a : Addr} {xs : List V} {g : TG} {tb : TS} {D : Ends} {σ : L2.St} {H : Hp} (Pv : Nat → L2.St → Hp → Prop) (h0 : Pv 0 σ H) (hl : ∀ i σ H, Pv i σ H → SqT K H a xs)
    (hs : ∀ i x σ H T, xs[i]? = some x → Pv i σ H → H T = none → g (.ref T) σ (upd H T (.tup [.int (i : Nat), x])) fun σ2 H2 => tb { D with nx := Pv (i + 1), ct := Pv (i + 1), bk := D.nx } σ2 H2) (hd : ∀ σ H, Pv xs.length σ H → D.nx σ H) :
    ∃ W : Nat → Nat → L2.St → Hp → Prop, (∃ m, W 0 m σ H) ∧ ∀ i m σ H, W i m σ H →
      ((Itne K a).stop i H ∧ D.nx σ H) ∨ ((Itne K a).go i H ∧ ∃ N : L2.St → Hp → Prop, (∀ σ' H', N σ' H' → ∃ m', m' < m ∧ W (i + 1) m' σ' H') ∧ ∀ x H', (Itne K a).yld i H x H' → g x σ H' fun σ2 H2 => tb { D with nx := N, ct := N, bk := D.nx } σ2 H2) := by
  refine ⟨fun i m σ H => m = xs.length - i ∧ i ≤ xs.length ∧ Pv i σ H, ⟨xs.length, by simp, Nat.zero_le _, h0⟩, fun i m σ H ⟨em, hi, p⟩ => ?_⟩
  have q := hl i σ H p
  by_cases lt : i < xs.length
  · refine .inr ⟨⟨xs, xs[i], q, by simp [lt]⟩, Pv (i + 1), fun σ' H' p' => ⟨xs.length - (i + 1), by omega, rfl, lt, p'⟩, fun v H' ⟨T, x, ev, nT, eH, hx⟩ => ?_⟩
    rw [ev, eH]
    exact hs i x σ H T (hx xs q) p nT
  · have e : i = xs.length := by omega
    rw [e] at p
    exact .inl ⟨⟨xs, q, by omega⟩, hd σ H p⟩
theorem mx2_max {A B : List Int} {c m : Int} (hA : A ≠ []) (hB : B ≠ []) (h1 : m ∈ A ++ B ++ [c]) (h2 : ∀ y ∈ A ++ B ++ [c], y ≤ m) : m = mx2 (mx2 (mxG A) (mxG B)) c := by
  obtain ⟨a1, a2⟩ := mxG_in hA
  obtain ⟨b1, b2⟩ := mxG_in hB
  have ha := h2 (mxG A) (by simp [a1])
  have hb := h2 (mxG B) (by simp [b1])
  have hc := h2 c (by simp)
  have : m ≤ mxG A ∨ m ≤ mxG B ∨ m = c := by
    simp only [List.mem_append, List.mem_singleton] at h1
    rcases h1 with (z | z) | z
    · exact .inl (a2 m z)
    · exact .inr (.inl (b2 m z))
    · exact .inr (.inr z)
  unfold mx2
  split <;> split at * <;> omega
theorem dkm_vals (fs : List Nm) (f : Nm → Int) : (dkm fs fun x => V.int (f x)).map (·.2) = (fs.map f).map V.int := by
  unfold dkm
  rw [List.map_map, List.map_map]
  rfl
structure TxtL (mg : Str → Option Value) : Prop where
  max : mg "max" = none
  list : mg "list" = none
  enumerate : mg "enumerate" = none
abbrev s_law_joins : Stmt := topS 25
abbrev N_law_joins : List Str := ["one", "other", "length", "here", "there", "found", "at", "first", "to", "second", "across", "place"]
theorem sc_law_joins : FnScope N_law_joins ["one", "other", "length"] (defScope s_law_joins) := ⟨rfl, rfl, rfl, by decide +kernel, rfl, by decide +kernel, by decide +kernel⟩
section
variable {P : Program} {w : World} {K : PySem.W.Frag} {mg : Str → Option Value} {base : Heap}
def spLJ : Sp := fun vs H Q _ => ∃ (v v' : V) (pl pl' : List Nm) (ts ts' : List Tie) (k : Int), vs = [v, v', .int k] ∧ Dt H v (treeD pl ts) ∧ Dt H v' (treeD pl' ts') ∧ Fine pl ts ∧ Fine pl' ts' ∧ pl.length ≤ 40 ∧ pl'.length ≤ 40 ∧
  ∀ (H' : Hp) (q : Addr) (ws : List V), Same H H' → H q = none → H' q = some (.lst ws) → DtAll H' ws ((joinsOf pl pl' ts ts' k pl).map triD) → Q (.ref q) H'
theorem ok_ljoins {f : Addr} {fd : FuncData} (F : Fun K "_law_joins" "_law_joins" s_law_joins f fd) (T : TxtL mg) (C_law_lengths : Cal P w K mg base 2 "_law_lengths" spLay) : FnOk P w K mg base CX0 3 f fd ["one", "other", "length"] spLJ := by
  refine F.ok sc_law_joins (fun vs H Q E h => ?_) (fun cdv A outer s H vs Q E hr h => ?_)
  · obtain ⟨v, v', pl, pl', ts, ts', k, rfl, _⟩ := h
    rfl
  · obtain ⟨v, v', pl, pl', ts, ts', k, rfl, hd, hd', F1, F2, l1, l2, q⟩ := h
    obtain ⟨t, a, b, vs, rfl, ht, ha, hb, hA⟩ := dt_tree hd
    obtain ⟨t', a', b', vs', rfl, ht', ha', hb', hA'⟩ := dt_tree hd'
    have lpos : 0 < pl.length := List.length_pos_iff.mpr F1.ne
    have lpos' : 0 < pl'.length := List.length_pos_iff.mpr F2.ne
    refine ⟨_, (pss_cons (ps_setLc (i := 3) (own := [("place", 11)]) (g := gName 11) (tt := tYes) rfl sc_law_joins.nd rfl rfl (sw_true rfl rfl rfl (by decide +kernel)) (pi_tup (pe_ix ix_tup (pv 0) pe_int (fun _ _ => rfl))) (blkOk_by (N := N_law_joins) (sc := defScope s_law_joins) (by decide +kernel)) (fun _ _ _ _ _ => pg_name (i := 11) sc_law_joins.nd rfl (Or.inl rfl)) (fun _ _ _ _ _ => pts_nil) (fun _ _ _ _ _ => (pe_callB (cr_maxL (K := K) rfl) (by rfl) T.max bt_max (pa_cons (pe_listVals rfl (pe_c C_law_lengths hr (by decide) rfl (pa_cons (pv 0) (pa_cons (pv 11) pa_nil))) (by rfl) T.list bt_list) pa_nil))))
      (pss_cons (ps_setLc (i := 4) (own := [("place", 11)]) (g := gName 11) (tt := tYes) rfl sc_law_joins.nd rfl rfl (sw_true rfl rfl rfl (by decide +kernel)) (pi_tup (pe_ix ix_tup (pv 1) pe_int (fun _ _ => rfl))) (blkOk_by (N := N_law_joins) (sc := defScope s_law_joins) (by decide +kernel)) (fun _ _ _ _ _ => pg_name (i := 11) sc_law_joins.nd rfl (Or.inl rfl)) (fun _ _ _ _ _ => pts_nil) (fun _ _ _ _ _ => (pe_callB (cr_maxL (K := K) rfl) (by rfl) T.max bt_max (pa_cons (pe_listVals rfl (pe_c C_law_lengths hr (by decide) rfl (pa_cons (pv 1) (pa_cons (pv 11) pa_nil))) (by rfl) T.list bt_list) pa_nil))))
      (pss_cons (ps_set (i := 5) sc_law_joins.nd rfl (.inl rfl) (pe_lst pa_nil))
      (pss_cut (ps_for PassesOwn.never rfl (pi_enumT (by rfl) T.enumerate (pa_cons (pe_ix ix_tup (pv 0) pe_int (fun _ _ => rfl)) pa_nil)) (pg_tup rfl (pgs_cons (pg_name (i := 6) sc_law_joins.nd rfl (.inl rfl)) (pgs_cons (pg_name (i := 7) sc_law_joins.nd rfl (.inl rfl)) pgs_nil)))
        (pss_one (ps_for PassesOwn.never rfl (pi_enumT (by rfl) T.enumerate (pa_cons (pe_ix ix_tup (pv 1) pe_int (fun _ _ => rfl)) pa_nil)) (pg_tup rfl (pgs_cons (pg_name (i := 8) sc_law_joins.nd rfl (.inl rfl)) (pgs_cons (pg_name (i := 9) sc_law_joins.nd rfl (.inl rfl)) pgs_nil)))
          (pss_cons (ps_set (i := 10) sc_law_joins.nd rfl (.inl rfl) (pe_op op_add (pe_op op_add (pe_ix ix_list (pv 3) (pv 6) (fun _ _ => rfl)) (pv 2)) (pe_ix ix_list (pv 4) (pv 8) (fun _ _ => rfl))))
          (pss_one (ps_expr (pe_bm PySem.F.plainAttrs_list PySem.F.slot_list_append PySem.F.type_list_append mt_append (pv 5) (pa_cons (pe_tup (pa_cons (pe_callB (cr_max rfl) (by rfl) T.max bt_max (pa_cons (pe_op op_cat (pe_op op_cat (pv 3) (pv 4)) (pe_lst (pa_cons (pv 10) pa_nil))) pa_nil)) (pa_cons (pv 7) (pa_cons (pv 9) pa_nil)))) pa_nil))))))))
      (pss_one (ps_ret (pv 5))))))), ?_⟩
    -- here
    refine ⟨_, rfl, t, _, 0, .ref a, rfl, rfl, SqT.of ht, atI_nat (j := 0) rfl, a, rfl, ⟨_, ha.sq⟩, fun r1 n1 => ?_⟩
    refine lc_tup (K := K) (a := a) (xs := (pl.map S).map V.str) (fun i H' => Same H H' ∧ H' r1 = some (.lst (((pl.take i).map (rch pl ts)).map V.int))) ⟨same_new (Same.refl H) n1, upd_same⟩ (fun i H' _ hP => (ha.same hP.1).sq) (fun i v H' hi hP => ?_) (fun H1 hP => ?_)
    · obtain ⟨SM, hD⟩ := hP
      obtain ⟨x, hx, mx, rfl, ex⟩ := at_name hi
      have il := (List.getElem?_eq_some_iff.mp hx).1
      refine ⟨rfl, _, rfl, _, rfl, .ref t, pl, ts, x, rfl, Dt.keep (TK.of SM) hd, F1, mx, fun H2 dd fs S2 nD hdd nd all => ?_⟩
      refine ⟨dd, _, rfl, hdd, fun p np => ?_⟩
      rw [dkm_vals]
      have fpos : 0 < (fs.map (dist ts x)).length := by
        rw [List.length_map]
        exact List.length_pos_of_mem ((all x).mpr mx)
      refine ⟨p, fs.map (dist ts x), rfl, SqL.of upd_same, by simpa using fpos, fun m hm hle => ?_⟩
      have em : m = rch pl ts x := by
        refine mxG_is ?_ fun y hy => ?_
        · obtain ⟨z, hz, e⟩ := List.mem_map.mp hm
          exact List.mem_map.mpr ⟨z, (all z).mp hz, e⟩
        · obtain ⟨z, hz, e⟩ := List.mem_map.mp hy
          exact hle y (List.mem_map.mpr ⟨z, (all z).mpr hz, e⟩)
      rw [em]
      have S3 := same_new (o := .lst ((fs.map (dist ts x)).map V.int)) (SM.trans S2) np
      refine ⟨_, same_new (o := .lst ((fs.map (dist ts x)).map V.int)) S2 np _ _ hD, by rw [List.length_map, List.length_map, List.length_take]; exact sz_lt (by omega), same_put S3 n1, ?_⟩
      rw [upd_same, ex, List.map_append, List.map_append]
      rfl
    obtain ⟨S1, h1⟩ := hP
    rw [List.length_map, List.length_map, List.take_length] at h1
    -- there
    refine ⟨_, rfl, t', _, 0, .ref a', rfl, rfl, SqT.of (S1 _ _ ht'), atI_nat (j := 0) rfl, a', rfl, ⟨_, (ha'.same S1).sq⟩, fun r2 n2 => ?_⟩
    have r12 : r1 ≠ r2 := ne_of_none h1 n2
    refine lc_tup (K := K) (a := a') (xs := (pl'.map S).map V.str) (fun i H' => Same H H' ∧ H' r1 = some (.lst ((pl.map (rch pl ts)).map V.int)) ∧ H' r2 = some (.lst (((pl'.take i).map (rch pl' ts')).map V.int))) ⟨same_new S1 n2, by rw [upd_ne r12]; exact h1, upd_same⟩ (fun i H' _ hP => (ha'.same hP.1).sq) (fun i v H' hi hP => ?_) (fun H2 hP => ?_)
    · obtain ⟨SM, g1, hD⟩ := hP
      obtain ⟨x, hx, mx, rfl, ex⟩ := at_name hi
      have il := (List.getElem?_eq_some_iff.mp hx).1
      refine ⟨rfl, _, rfl, _, rfl, .ref t', pl', ts', x, rfl, Dt.keep (TK.of SM) hd', F2, mx, fun H3 dd fs S2 nD hdd nd all => ?_⟩
      refine ⟨dd, _, rfl, hdd, fun p np => ?_⟩
      rw [dkm_vals]
      have fpos : 0 < (fs.map (dist ts' x)).length := by
        rw [List.length_map]
        exact List.length_pos_of_mem ((all x).mpr mx)
      refine ⟨p, fs.map (dist ts' x), rfl, SqL.of upd_same, by simpa using fpos, fun m hm hle => ?_⟩
      have em : m = rch pl' ts' x := by
        refine mxG_is ?_ fun y hy => ?_
        · obtain ⟨z, hz, e⟩ := List.mem_map.mp hm
          exact List.mem_map.mpr ⟨z, (all z).mp hz, e⟩
        · obtain ⟨z, hz, e⟩ := List.mem_map.mp hy
          exact hle y (List.mem_map.mpr ⟨z, (all z).mpr hz, e⟩)
      rw [em]
      have S4 := same_new (o := .lst ((fs.map (dist ts' x)).map V.int)) S2 np
      refine ⟨_, S4 _ _ hD, by rw [List.length_map, List.length_map, List.length_take]; exact sz_lt (by omega), same_put (SM.trans S4) (S1.free n2), by rw [upd_ne r12]; exact S4 _ _ g1, ?_⟩
      rw [upd_same, ex, List.map_append, List.map_append]
      rfl
    obtain ⟨S2, h12, h2⟩ := hP
    rw [List.length_map, List.length_map, List.take_length] at h2
    refine ⟨Nat.zero_le _, fun D nD => ?_⟩
    have S3 := same_new (o := .lst []) S2 nD
    have nD0 := S2.free nD
    have h13 := same_new (o := .lst []) (Same.refl H2) nD _ _ h12
    have h23 := same_new (o := .lst []) (Same.refl H2) nD _ _ h2
    have hD0 : (upd H2 D (.lst [])) D = some (.lst []) := upd_same
    have r1D : r1 ≠ D := ne_of_none h12 nD
    have r2D : r2 ≠ D := ne_of_none h2 nD
    generalize upd H2 D (.lst []) = H3 at S3 h13 h23 hD0
    refine ⟨fun σ' H' => ∃ (x6 x7 x8 x9 x10 x11 : Option V) (ws : List V), σ' = [some (.ref t), some (.ref t'), some (.int k), some (.ref r1), some (.ref r2), some (.ref D), x6, x7, x8, x9, x10, x11] ∧ Same H H' ∧ H' D = some (.lst ws) ∧ DtAll H' ws ((joinsOf pl pl' ts ts' k pl).map triD), ?_, fun σ' H' hM => ?_⟩
    rotate_left
    · obtain ⟨x6, x7, x8, x9, x10, x11, ws, rfl, S4, hD, hW⟩ := hM
      exact ⟨_, rfl, q H' D ws S4 nD0 hD hW⟩
    · refine ⟨_, rfl, t, _, 0, .ref a, rfl, rfl, SqT.of (S3 _ _ ht), atI_nat (j := 0) rfl, a, _, rfl, (ha.same S3).sq, ?_⟩
      refine for_enumT (K := K) (a := a) (xs := (pl.map S).map V.str) (fun i σ' H' => ∃ (x6 x7 x8 x9 x10 x11 : Option V) (ws : List V), σ' = [some (.ref t), some (.ref t'), some (.int k), some (.ref r1), some (.ref r2), some (.ref D), x6, x7, x8, x9, x10, x11] ∧ Same H H' ∧ H' r1 = some (.lst ((pl.map (rch pl ts)).map V.int)) ∧ H' r2 = some (.lst ((pl'.map (rch pl' ts')).map V.int)) ∧ H' D = some (.lst ws) ∧ DtAll H' ws ((joinsOf pl pl' ts ts' k (pl.take i)).map triD))
        ⟨none, none, none, none, none, none, [], rfl, S3, h13, h23, hD0, .nil⟩ (fun i σ' H' hP => ?_) (fun i x σ' H' T1 hx hP nT => ?_) (fun σ' H' hP => ?_)
      · obtain ⟨_, _, _, _, _, _, _, _, S4, _⟩ := hP
        exact (ha.same S4).sq
      · obtain ⟨x6, x7, x8, x9, x10, x11, ws, rfl, S4, g1, g2, hD, hW⟩ := hP
        obtain ⟨nm, hnm, mnm, rfl, ex⟩ := at_name hx
        have il := (List.getElem?_eq_some_iff.mp hnm).1
        have SN := same_new (o := .tup [.int (i : Nat), .str (S nm)]) (Same.refl H') nT
        have S5 := S4.trans SN
        have g15 := SN _ _ g1
        have g25 := SN _ _ g2
        have hD5 := SN _ _ hD
        have hW5 := DtAll.keep (TK.of SN) hW
        have hT : (upd H' T1 (.tup [.int (i : Nat), .str (S nm)])) T1 = some (.tup [.int (i : Nat), .str (S nm)]) := upd_same
        generalize upd H' T1 (.tup [.int (i : Nat), .str (S nm)]) = H5 at SN S5 g15 g25 hD5 hW5 hT
        refine ⟨T1, _, rfl, SqT.of hT, rfl, _, _, rfl, _, _, rfl, rfl, ?_⟩
        rw [ex, joinsOf_snoc]
        refine ⟨_, rfl, t', _, 0, .ref a', rfl, rfl, SqT.of (S5 _ _ ht'), atI_nat (j := 0) rfl, a', _, rfl, (ha'.same S5).sq, ?_⟩
        refine for_enumT (K := K) (a := a') (xs := (pl'.map S).map V.str) (fun j σ' H' => ∃ (x8 x9 x10 x11 : Option V) (ws : List V), σ' = [some (.ref t), some (.ref t'), some (.int k), some (.ref r1), some (.ref r2), some (.ref D), some (.int (i : Nat)), some (.str (S nm)), x8, x9, x10, x11] ∧ Same H H' ∧ H' r1 = some (.lst ((pl.map (rch pl ts)).map V.int)) ∧ H' r2 = some (.lst ((pl'.map (rch pl' ts')).map V.int)) ∧ H' D = some (.lst ws) ∧ DtAll H' ws ((joinsOf pl pl' ts ts' k (pl.take i) ++ (pl'.take j).map fun y => joinT pl pl' ts ts' k nm y).map triD))
          ⟨_, _, _, _, ws, rfl, S5, g15, g25, hD5, by rw [List.take_zero, List.map_nil, List.append_nil]; exact hW5⟩ (fun j σ' H' hP => ?_) (fun j x σ' H' T2 hx hP nT => ?_) (fun σ' H' hP => ?_)
        · obtain ⟨_, _, _, _, _, _, S4, _⟩ := hP
          exact (ha'.same S4).sq
        · clear S4 S5 g1 g2 g15 g25 hD hD5 hW hW5 hT SN ws
          obtain ⟨y8, y9, y10, y11, ws, rfl, S4, g1, g2, hD, hW⟩ := hP
          obtain ⟨nn, hnn, mnn, rfl, ex2⟩ := at_name hx
          have jl := (List.getElem?_eq_some_iff.mp hnn).1
          have SN := same_new (o := .tup [.int (j : Nat), .str (S nn)]) (Same.refl H') nT
          have hT : (upd H' T2 (.tup [.int (j : Nat), .str (S nn)])) T2 = some (.tup [.int (j : Nat), .str (S nn)]) := upd_same
          generalize upd H' T2 (.tup [.int (j : Nat), .str (S nn)]) = H5 at SN hT
          have e1 : atI ((pl.map (rch pl ts)).map V.int) ((i : Nat) : Int) = some (.int (rch pl ts nm)) := atI_nat (by rw [List.getElem?_map, List.getElem?_map, hnm]; rfl)
          have e2 : atI ((pl'.map (rch pl' ts')).map V.int) ((j : Nat) : Int) = some (.int (rch pl' ts' nn)) := atI_nat (by rw [List.getElem?_map, List.getElem?_map, hnn]; rfl)
          refine ⟨T2, _, rfl, SqT.of hT, rfl, _, _, rfl, _, _, rfl, rfl, ?_⟩
          refine ⟨_, rfl, _, rfl, r1, _, _, _, rfl, rfl, SqL.of (SN _ _ g1), e1, _, rfl, _, _, rfl, rfl, _, rfl, _, rfl, r2, _, _, _, rfl, rfl, SqL.of (SN _ _ g2), e2, _, _, rfl, rfl, ?_⟩
          refine ⟨_, rfl, .inl ⟨rfl, _, SqL.of (SN _ _ hD)⟩, ?_⟩
          refine ⟨_, rfl, _, rfl, r1, r2, _, _, rfl, rfl, SN _ _ g1, SN _ _ g2, by rw [List.length_map, List.length_map, List.length_map, List.length_map]; exact sz_le (by omega), fun p1 m1 => ?_⟩
          have Sp1 := same_new (o := .lst ((pl.map (rch pl ts)).map V.int ++ (pl'.map (rch pl' ts')).map V.int)) SN m1
          have hp1 : (upd H5 p1 (.lst ((pl.map (rch pl ts)).map V.int ++ (pl'.map (rch pl' ts')).map V.int))) p1 = some (.lst ((pl.map (rch pl ts)).map V.int ++ (pl'.map (rch pl' ts')).map V.int)) := upd_same
          generalize upd H5 p1 (.lst ((pl.map (rch pl ts)).map V.int ++ (pl'.map (rch pl' ts')).map V.int)) = H6 at Sp1 hp1
          refine ⟨_, rfl, (by show 1 ≤ sizeLine; decide), fun p2 m2 => ?_⟩
          refine ⟨p1, p2, _, _, rfl, rfl, by rw [upd_ne (ne_of_none hp1 m2)]; exact hp1, upd_same, by rw [List.length_append, List.length_map, List.length_map, List.length_map, List.length_map]; exact sz_le (by simp; omega), fun p3 m3 => ?_⟩
          have Sp3 := same_new (o := .lst ((pl.map (rch pl ts)).map V.int ++ (pl'.map (rch pl' ts')).map V.int ++ [V.int (rch pl ts nm + k + rch pl' ts' nn)])) (same_new (o := .lst [V.int (rch pl ts nm + k + rch pl' ts' nn)]) Sp1 m2) m3
          have hp3 : (upd (upd H6 p2 (.lst [V.int (rch pl ts nm + k + rch pl' ts' nn)])) p3 (.lst ((pl.map (rch pl ts)).map V.int ++ (pl'.map (rch pl' ts')).map V.int ++ [V.int (rch pl ts nm + k + rch pl' ts' nn)]))) p3 = some (.lst (((pl.map (rch pl ts)) ++ (pl'.map (rch pl' ts')) ++ [rch pl ts nm + k + rch pl' ts' nn]).map V.int)) := by
            rw [List.map_append, List.map_append]
            exact upd_same
          generalize upd (upd H6 p2 (.lst [V.int (rch pl ts nm + k + rch pl' ts' nn)])) p3 (.lst ((pl.map (rch pl ts)).map V.int ++ (pl'.map (rch pl' ts')).map V.int ++ [V.int (rch pl ts nm + k + rch pl' ts' nn)])) = H7 at Sp3 hp3
          refine ⟨p3, (pl.map (rch pl ts)) ++ (pl'.map (rch pl' ts')) ++ [rch pl ts nm + k + rch pl' ts' nn], rfl, SqL.of hp3, by simp; omega, fun m hm hle => ?_⟩
          have em : m = mx2 (insN pl pl' ts ts') (rch pl ts nm + k + rch pl' ts' nn) := mx2_max (by simpa using F1.ne) (by simpa using F2.ne) hm hle
          subst em
          refine ⟨_, rfl, _, rfl, (by show 3 ≤ sizeLine; decide), fun g ng => ?_⟩
          have Sg := same_new (o := .tup [.int (mx2 (insN pl pl' ts ts') (rch pl ts nm + k + rch pl' ts' nn)), .str (S nm), .str (S nn)]) Sp3 ng
          have hg : (upd H7 g (.tup [.int (mx2 (insN pl pl' ts ts') (rch pl ts nm + k + rch pl' ts' nn)), .str (S nm), .str (S nn)])) g = some (.tup [.int (mx2 (insN pl pl' ts ts') (rch pl ts nm + k + rch pl' ts' nn)), .str (S nm), .str (S nn)]) := upd_same
          generalize upd H7 g (.tup [.int (mx2 (insN pl pl' ts ts') (rch pl ts nm + k + rch pl' ts' nn)), .str (S nm), .str (S nn)]) = H8 at Sg hg
          have wl := DtAll.len hW
          rw [List.length_map, List.length_append, joinsOf_len, List.length_map, List.length_take, List.length_take] at wl
          have wl2 : ws.length ≤ 2000 := by
            have h1 : min i pl.length * pl'.length ≤ 40 * 40 := Nat.mul_le_mul (by omega) l2
            omega
          have hD8 := Sg _ _ hD
          have tkm := TK.mut (o := .lst (ws ++ [.ref g])) hD8
          refine ⟨D, ws, _, rfl, rfl, hD8, sz_lt (by omega), ?_⟩
          refine ⟨_, _, _, _, ws ++ [.ref g], rfl, same_put (S4.trans Sg) nD0, by rw [upd_ne r1D]; exact Sg _ _ g1, by rw [upd_ne r2D]; exact Sg _ _ g2, upd_same, ?_⟩
          rw [ex2, List.map_append (l₁ := pl'.take j), ← List.append_assoc, List.map_append (l₂ := List.map _ [nn])]
          exact DtAll.app (DtAll.keep ((TK.of Sg).trans tkm) hW) (.cons (.tup (tkm.tup _ _ hg) (.cons (.int _) (.cons (.str _) (.cons (.str _) .nil)))) .nil)
        · obtain ⟨y8, y9, y10, y11, ws, rfl, S4, g1, g2, hD, hW⟩ := hP
          rw [List.length_map, List.length_map, List.take_length] at hW
          exact ⟨_, _, _, _, _, _, ws, rfl, S4, g1, g2, hD, hW⟩
      · obtain ⟨x6, x7, x8, x9, x10, x11, ws, rfl, S4, g1, g2, hD, hW⟩ := hP
        rw [List.length_map, List.length_map, List.take_length] at hW
        exact ⟨x6, x7, x8, x9, x10, x11, ws, rfl, S4, hD, hW⟩
end
end Far

namespace Far
open PySem PySem.Spec PyProof.Rows L2
open SX (S)
theorem Way.join {ts : List Tie} {u m v : Nm} {p1 q : List Nm} {L1 L2 : Int} (h1 : Way ts u m (p1 ++ [m]) L1) (h2 : Way ts m v q L2) (d : ∀ y ∈ q, y ∉ p1) : Way ts u v (p1 ++ q) (L1 + L2) := by
  induction h2 with
  | nil => simpa using h1
  | @snoc v w q L k h ha hn ih =>
    have := Way.snoc (ih fun y hy => d y (List.mem_append_left _ hy)) ha (w := w) (fun z => by
      rcases List.mem_append.mp z with z | z
      · exact d w (by simp) z
      · exact hn z)
    rw [List.append_assoc] at this
    rw [← Int.add_assoc]
    exact this
theorem IsTree.hang {pl : List Nm} {ts : List Tie} {a b : Nm} {k : Int} {e : Tie} (h : IsTree pl ts) (ha : a ∈ pl) (hb : b ∉ pl) (he : e = (a, b, k) ∨ e = (b, a, k)) (k1 : 1 ≤ k) (k2 : k ≤ 1000000) : IsTree (pl ++ [b]) (ts ++ [e]) := by
  obtain ⟨os, es, g, p, q⟩ := h
  exact ⟨os ++ [b], es ++ [e], .leaf g (p.mem_iff.mp ha) (fun z => hb (p.mem_iff.mpr z)) he k1 k2, p.append_right _, q.append_right _⟩
theorem IsTree.perm {pl pl' : List Nm} {ts ts' : List Tie} (h : IsTree pl ts) (p : pl'.Perm pl) (q : ts'.Perm ts) : IsTree pl' ts' := by
  obtain ⟨os, es, g, p', q'⟩ := h
  exact ⟨os, es, g, p.trans p', q.trans q'⟩
/-- a tree hung on another -/
theorem Grown.hung {os : List Nm} {es : List Tie} (g : Grown os es) : ∀ {pl : List Nm} {ts : List Tie}, IsTree pl ts → (∀ z ∈ os, z ∉ pl) → ∀ {x y : Nm} {k : Int} {e : Tie}, x ∈ pl → y ∈ os → (e = (x, y, k) ∨ e = (y, x, k)) → 1 ≤ k → k ≤ 1000000 → IsTree (pl ++ os) (ts ++ es ++ [e]) := by
  induction g with
  | one a =>
    intro pl ts h dis x y k e hx hy he k1 k2
    have ey := List.mem_singleton.mp hy
    subst ey
    rw [List.append_nil]
    exact h.hang hx (dis y hy) he k1 k2
  | @leaf os es a b k' e' g ha hb he' k1' k2' ih =>
    intro pl ts h dis x y k e hx hy he k1 k2
    have dis' : ∀ z ∈ os, z ∉ pl := fun z hz => dis z (List.mem_append_left _ hz)
    have bn : b ∉ pl := dis b (List.mem_append_right _ (List.mem_singleton.mpr rfl))
    rcases List.mem_append.mp hy with hy | hy
    · have t1 := ih h dis' hx hy he k1 k2
      have t2 := t1.hang (a := a) (b := b) (e := e') (List.mem_append_right _ ha) (fun z => (List.mem_append.mp z).elim bn hb) he' k1' k2'
      refine t2.perm (by rw [List.append_assoc]) ?_
      rw [List.append_assoc, List.append_assoc, List.append_assoc, List.append_assoc]
      refine List.Perm.append_left _ (List.Perm.append_left _ ?_)
      exact List.perm_append_comm
    · have ey := List.mem_singleton.mp hy
      subst ey
      have t1 := h.hang hx bn he k1 k2
      have t2 := ih t1 (fun z hz w => (List.mem_append.mp w).elim (dis' z hz) fun q => hb (List.mem_singleton.mp q ▸ hz)) (x := y) (y := a) (k := k') (e := e') (List.mem_append_right _ (List.mem_singleton.mpr rfl)) ha he'.symm k1' k2'
      refine t2.perm ?_ ?_
      · rw [List.append_assoc]
        exact List.Perm.append_left _ List.perm_append_comm
      · have e1 : ts ++ (es ++ [e']) ++ [e] = ts ++ (es ++ [e'] ++ [e]) := by simp
        have e2 : ts ++ [e] ++ es ++ [e'] = ts ++ ([e] ++ (es ++ [e'])) := by simp
        rw [e1, e2]
        exact List.Perm.append_left _ List.perm_append_comm
theorem IsTree.joined {pl pl' : List Nm} {ts ts' : List Tie} (h : IsTree pl ts) (h' : IsTree pl' ts') (dis : ∀ z ∈ pl, z ∉ pl') {x y : Nm} {k : Int} (hx : x ∈ pl) (hy : y ∈ pl') (k1 : 1 ≤ k) (k2 : k ≤ 1000000) : IsTree (pl ++ pl') (ts ++ ts' ++ [(x, y, k)]) := by
  obtain ⟨os, es, g, p, q⟩ := h'
  have := g.hung h (fun z hz w => dis z w (p.mem_iff.mpr hz)) hx (p.mem_iff.mp hy) (.inl rfl) k1 k2
  exact this.perm (List.Perm.append_left _ p) (by
    rw [List.append_assoc, List.append_assoc]
    exact List.Perm.append_left _ (q.append_right _))
def Among (es ts : List Tie) : Prop := ∀ x y k, Adj es x y k → Adj ts x y k
theorem Way.among {es ts : List Tie} (s : Among es ts) {u v : Nm} {p : List Nm} {L : Int} (h : Way es u v p L) : Way ts u v p L := by
  induction h with
  | nil => exact .nil
  | snoc _ ha hn ih => exact .snoc ih (s _ _ _ ha) hn
theorem dist_among {hs pl : List Nm} {es ts : List Tie} (h : IsTree hs es) (h' : IsTree pl ts) (s : Among es ts) {u v : Nm} (hu : u ∈ hs) (hv : v ∈ hs) : dist es u v = dist ts u v := ((h'.is_way ((h.the_way hu hv).among s)).2).symm
section
variable {pl pl' : List Nm} {ts ts' : List Tie} {x y : Nm} {k : Int}
theorem dist_left (h : IsTree pl ts) (hJ : IsTree (pl ++ pl') (ts ++ ts' ++ [(x, y, k)])) {u v : Nm} (hu : u ∈ pl) (hv : v ∈ pl) : dist (ts ++ ts' ++ [(x, y, k)]) u v = dist ts u v :=
  (dist_among h hJ (fun a b l z => z.elim (fun q => .inl (by simp [q])) fun q => .inr (by simp [q])) hu hv).symm
theorem dist_right (h' : IsTree pl' ts') (hJ : IsTree (pl ++ pl') (ts ++ ts' ++ [(x, y, k)])) {u v : Nm} (hu : u ∈ pl') (hv : v ∈ pl') : dist (ts ++ ts' ++ [(x, y, k)]) u v = dist ts' u v :=
  (dist_among h' hJ (fun a b l z => z.elim (fun q => .inl (by simp [q])) fun q => .inr (by simp [q])) hu hv).symm
theorem dist_cross (h : IsTree pl ts) (h' : IsTree pl' ts') (hJ : IsTree (pl ++ pl') (ts ++ ts' ++ [(x, y, k)])) (dis : ∀ z ∈ pl, z ∉ pl') (hx : x ∈ pl) (hy : y ∈ pl') {u v : Nm} (hu : u ∈ pl) (hv : v ∈ pl') : dist (ts ++ ts' ++ [(x, y, k)]) u v = dist ts u x + k + dist ts' y v := by
  have w1 := (h.the_way hu hx).among (ts := ts ++ ts' ++ [(x, y, k)]) fun a b l z => z.elim (fun q => .inl (by simp [q])) fun q => .inr (by simp [q])
  have w2 := (h'.the_way hy hv).among (ts := ts ++ ts' ++ [(x, y, k)]) fun a b l z => z.elim (fun q => .inl (by simp [q])) fun q => .inr (by simp [q])
  have i1 := (h.the_way hu hx).inside (fun e he => ⟨(h.ties e he).1, (h.ties e he).2.1⟩) hu
  have i2 := (h'.the_way hy hv).inside (fun e he => ⟨(h'.ties e he).1, (h'.ties e he).2.1⟩) hy
  have w3 := Way.snoc w1 (w := y) (k := k) (.inl (by simp)) fun z => dis y (i1 y z) hy
  exact (hJ.is_way (w3.join w2 fun z hz hz' => dis z (i1 z hz') (i2 z hz))).2
theorem rch_in (h : IsTree pl ts) {u : Nm} (hu : u ∈ pl) : (∃ v ∈ pl, dist ts u v = rch pl ts u) ∧ ∀ v ∈ pl, dist ts u v ≤ rch pl ts u := by
  obtain ⟨a, b⟩ := mxG_in (l := pl.map fun x => dist ts u x) (fun z => by rw [List.map_eq_nil_iff] at z; rw [z] at hu; cases hu)
  obtain ⟨v, hv, e⟩ := List.mem_map.mp a
  exact ⟨⟨v, hv, e⟩, fun v hv => b _ (List.mem_map.mpr ⟨v, hv, rfl⟩)⟩
theorem mx_in (h : IsTree pl ts) (ne : pl ≠ []) : (∃ u ∈ pl, ∃ v ∈ pl, dist ts u v = mxG (pl.map (rch pl ts))) ∧ ∀ u ∈ pl, ∀ v ∈ pl, dist ts u v ≤ mxG (pl.map (rch pl ts)) := by
  obtain ⟨a, b⟩ := mxG_in (l := pl.map (rch pl ts)) (fun z => ne (List.map_eq_nil_iff.mp z))
  obtain ⟨u, hu, e⟩ := List.mem_map.mp a
  obtain ⟨⟨v, hv, e2⟩, _⟩ := rch_in h hu
  refine ⟨⟨u, hu, v, hv, e2.trans e⟩, fun u hu v hv => Int.le_trans ((rch_in h hu).2 v hv) (b _ (List.mem_map.mpr ⟨u, hu, rfl⟩))⟩
/-- the greatest length in a joined tree -/
theorem joined_top (h : Fine pl ts) (h' : Fine pl' ts') (dis : ∀ z ∈ pl, z ∉ pl') (hx : x ∈ pl) (hy : y ∈ pl') (k1 : 1 ≤ k) (k2 : k ≤ 1000000) {m : Int}
    (m1 : ∃ u ∈ pl ++ pl', ∃ v ∈ pl ++ pl', dist (ts ++ ts' ++ [(x, y, k)]) u v = m) (m2 : ∀ u ∈ pl ++ pl', ∀ v ∈ pl ++ pl', dist (ts ++ ts' ++ [(x, y, k)]) u v ≤ m) : m = (joinT pl pl' ts ts' k x y).1 := by
  have hJ := h.tree.joined h'.tree dis hx hy k1 k2
  obtain ⟨⟨u1, hu1, v1, hv1, e1⟩, a2⟩ := mx_in h.tree h.ne
  obtain ⟨⟨u2, hu2, v2, hv2, e2⟩, b2⟩ := mx_in h'.tree h'.ne
  obtain ⟨⟨ux, hux, ex⟩, rx⟩ := rch_in h.tree hx
  obtain ⟨⟨vy, hvy, ey⟩, ry⟩ := rch_in h'.tree hy
  have L := fun {u v} => dist_left (u := u) (v := v) h.tree hJ
  have R := fun {u v} => dist_right (u := u) (v := v) h'.tree hJ
  have X := fun {u v} => dist_cross (u := u) (v := v) h.tree h'.tree hJ dis hx hy
  have g1 := m2 u1 (List.mem_append_left _ hu1) v1 (List.mem_append_left _ hv1)
  rw [L hu1 hv1, e1] at g1
  have g2 := m2 u2 (List.mem_append_right _ hu2) v2 (List.mem_append_right _ hv2)
  rw [R hu2 hv2, e2] at g2
  have g3 := m2 ux (List.mem_append_left _ hux) vy (List.mem_append_right _ hvy)
  rw [X hux hvy, (h.tree.dist_symm hux hx).1, ex, ey] at g3
  have cr : ∀ u ∈ pl, ∀ v ∈ pl', dist (ts ++ ts' ++ [(x, y, k)]) u v ≤ rch pl ts x + k + rch pl' ts' y := fun u hu v hv => by
    rw [X hu hv, (h.tree.dist_symm hu hx).1]
    have := rx u hu
    have := ry v hv
    omega
  have up : m ≤ mxG (pl.map (rch pl ts)) ∨ m ≤ mxG (pl'.map (rch pl' ts')) ∨ m ≤ rch pl ts x + k + rch pl' ts' y := by
    obtain ⟨u, hu, v, hv, rfl⟩ := m1
    rcases List.mem_append.mp hu with hu | hu <;> rcases List.mem_append.mp hv with hv | hv
    · rw [L hu hv]
      exact .inl (a2 u hu v hv)
    · exact .inr (.inr (cr u hu v hv))
    · rw [(hJ.dist_symm (List.mem_append_right _ hu) (List.mem_append_left _ hv)).1]
      exact .inr (.inr (cr v hv u hu))
    · rw [R hu hv]
      exact .inr (.inl (b2 u hu v hv))
  show m = mx2 (mx2 (mxG (pl.map (rch pl ts))) (mxG (pl'.map (rch pl' ts')))) (rch pl ts x + k + rch pl' ts' y)
  unfold mx2
  split <;> split at * <;> omega
end
end Far

namespace Far
open PySem PySem.Spec PyProof.Rows L2
open C8 (pss_cut tCut)
open SX (S)
abbrev s_law_by_trial : Stmt := topS 26
abbrev N_law_by_trial : List Str := ["one", "other", "length", "found", "first", "second", "tree", "far", "place"]
theorem sc_law_by_trial : FnScope N_law_by_trial ["one", "other", "length"] (defScope s_law_by_trial) := ⟨rfl, rfl, rfl, by decide +kernel, rfl, by decide +kernel, by decide +kernel⟩
section
variable {P : Program} {w : World} {K : PySem.W.Frag} {mg : Str → Option Value} {base : Heap}
def spTrial : Sp := fun vs H Q _ => ∃ (v v' : V) (pl pl' : List Nm) (ts ts' : List Tie) (k : Int), vs = [v, v', .int k] ∧ Dt H v (treeD pl ts) ∧ Dt H v' (treeD pl' ts') ∧ Fine pl ts ∧ Fine pl' ts' ∧ pl.length ≤ 40 ∧ pl'.length ≤ 40 ∧ (∀ z ∈ pl, z ∉ pl') ∧ 1 ≤ k ∧ k ≤ 1000000 ∧
  ∀ (H' : Hp) (q : Addr) (ws : List V), Same H H' → H q = none → H' q = some (.lst ws) → DtAll H' ws ((joinsOf pl pl' ts ts' k pl).map triD) → Q (.ref q) H'
theorem ok_trial {f : Addr} {fd : FuncData} (F : Fun K "_law_by_trial" "_law_by_trial" s_law_by_trial f fd) (T : TxtL mg) (C_law_lengths : Cal P w K mg base 2 "_law_lengths" spLay) : FnOk P w K mg base CX0 3 f fd ["one", "other", "length"] spTrial := by
  refine F.ok sc_law_by_trial (fun vs H Q E h => ?_) (fun cdv A outer s H vs Q E hr h => ?_)
  · obtain ⟨v, v', pl, pl', ts, ts', k, rfl, _⟩ := h
    rfl
  · obtain ⟨v, v', pl, pl', ts, ts', k, rfl, hd, hd', F1, F2, l1, l2, dis, k1, k2, q⟩ := h
    obtain ⟨t, a, b, vs, rfl, ht, ha, hb, hA⟩ := dt_tree hd
    obtain ⟨t', a', b', vs', rfl, ht', ha', hb', hA'⟩ := dt_tree hd'
    have tl := F1.tree.len
    have tl' := F2.tree.len
    have vl : vs.length = ts.length := by
      have := DtAll.len hA
      rwa [List.length_map] at this
    have vl' : vs'.length = ts'.length := by
      have := DtAll.len hA'
      rwa [List.length_map] at this
    refine ⟨_, (pss_cons (ps_set (i := 3) sc_law_by_trial.nd rfl (.inl rfl) (pe_lst pa_nil))
      (pss_cut (ps_for PassesOwn.never rfl (pi_tup (pe_ix ix_tup (pv 0) pe_int (fun _ _ => rfl))) (pg_name (i := 4) sc_law_by_trial.nd rfl (.inl rfl))
        (pss_one (ps_for PassesOwn.never rfl (pi_tup (pe_ix ix_tup (pv 1) pe_int (fun _ _ => rfl))) (pg_name (i := 5) sc_law_by_trial.nd rfl (.inl rfl))
          (pss_cons (ps_set (i := 6) sc_law_by_trial.nd rfl (.inl rfl) (pe_tup (pa_cons (pe_op op_catA (pe_ix ix_tup (pv 0) pe_int (fun _ _ => rfl)) (pe_ix ix_tup (pv 1) pe_int (fun _ _ => rfl))) (pa_cons (pe_op op_catA (pe_op op_catA (pe_ix ix_tup (pv 0) pe_int (fun _ _ => rfl)) (pe_ix ix_tup (pv 1) pe_int (fun _ _ => rfl))) (pe_tup (pa_cons (pe_tup (pa_cons (pv 4) (pa_cons (pv 5) (pa_cons (pv 2) pa_nil)))) pa_nil))) pa_nil))))
          (pss_cons (ps_set (i := 7) sc_law_by_trial.nd rfl (.inl rfl) pe_int)
          (pss_cut (ps_for PassesOwn.never rfl (pi_tup (pe_ix ix_tup (pv 6) pe_int (fun _ _ => rfl))) (pg_name (i := 8) sc_law_by_trial.nd rfl (.inl rfl))
            (pss_one (ps_set (i := 7) sc_law_by_trial.nd rfl (.inl rfl) (pe_callB (cr_max rfl) (by rfl) T.max bt_max (pa_cons (pe_op op_cat (pe_lst (pa_cons (pv 7) pa_nil)) (pe_listVals rfl (pe_c C_law_lengths hr (by decide) rfl (pa_cons (pv 6) (pa_cons (pv 8) pa_nil))) (by rfl) T.list bt_list)) pa_nil)))))
          (pss_one (ps_expr (pe_bm PySem.F.plainAttrs_list PySem.F.slot_list_append PySem.F.type_list_append mt_append (pv 3) (pa_cons (pe_tup (pa_cons (pv 7) (pa_cons (pv 4) (pa_cons (pv 5) pa_nil)))) pa_nil))))))))))
      (pss_one (ps_ret (pv 3))))), ?_⟩
    refine ⟨Nat.zero_le _, fun D nD => ?_⟩
    have S3 := same_new (o := .lst []) (Same.refl H) nD
    have hD0 : (upd H D (.lst [])) D = some (.lst []) := upd_same
    generalize upd H D (.lst []) = H3 at S3 hD0
    refine ⟨fun σ' H' => ∃ (x4 x5 x6 x7 x8 : Option V) (ws : List V), σ' = [some (.ref t), some (.ref t'), some (.int k), some (.ref D), x4, x5, x6, x7, x8] ∧ Same H H' ∧ H' D = some (.lst ws) ∧ DtAll H' ws ((joinsOf pl pl' ts ts' k pl).map triD), ?_, fun σ' H' hM => ?_⟩
    rotate_left
    · obtain ⟨x4, x5, x6, x7, x8, ws, rfl, S4, hD, hW⟩ := hM
      exact ⟨_, rfl, q H' D ws S4 nD hD hW⟩
    · refine ⟨_, rfl, t, _, 0, .ref a, rfl, rfl, SqT.of (S3 _ _ ht), atI_nat (j := 0) rfl, a, rfl, ⟨_, (ha.same S3).sq⟩, for_tup (K := K) (a := a) (xs := (pl.map S).map V.str) (fun i σ' H' => ∃ (x4 x5 x6 x7 x8 : Option V) (ws : List V), σ' = [some (.ref t), some (.ref t'), some (.int k), some (.ref D), x4, x5, x6, x7, x8] ∧ Same H H' ∧ H' D = some (.lst ws) ∧ DtAll H' ws ((joinsOf pl pl' ts ts' k (pl.take i)).map triD))
        ⟨none, none, none, none, none, [], rfl, S3, hD0, .nil⟩ (fun i σ' H' _ hP => ?_) (fun i x σ' H' hx hP => ?_) (fun σ' H' hP => ?_)⟩
      · obtain ⟨_, _, _, _, _, _, _, S4, _⟩ := hP
        exact (ha.same S4).sq
      · obtain ⟨x4, x5, x6, x7, x8, ws, rfl, S4, hD, hW⟩ := hP
        obtain ⟨nm, hnm, mnm, rfl, ex⟩ := at_name hx
        have il := (List.getElem?_eq_some_iff.mp hnm).1
        rw [ex, joinsOf_snoc]
        refine ⟨_, rfl, t', _, 0, .ref a', rfl, rfl, SqT.of (S4 _ _ ht'), atI_nat (j := 0) rfl, a', rfl, ⟨_, (ha'.same S4).sq⟩, for_tup (K := K) (a := a') (xs := (pl'.map S).map V.str) (fun j σ' H' => ∃ (x5 x6 x7 x8 : Option V) (ws : List V), σ' = [some (.ref t), some (.ref t'), some (.int k), some (.ref D), some (.str (S nm)), x5, x6, x7, x8] ∧ Same H H' ∧ H' D = some (.lst ws) ∧ DtAll H' ws ((joinsOf pl pl' ts ts' k (pl.take i) ++ (pl'.take j).map fun y => joinT pl pl' ts ts' k nm y).map triD))
          ⟨_, _, _, _, ws, rfl, S4, hD, by rw [List.take_zero, List.map_nil, List.append_nil]; exact hW⟩ (fun j σ' H' _ hP => ?_) (fun j x σ' H' hx hP => ?_) (fun σ' H' hP => ?_)⟩
        · obtain ⟨_, _, _, _, _, _, S4, _⟩ := hP
          exact (ha'.same S4).sq
        · clear S4 hD hW ws
          obtain ⟨y5, y6, y7, y8, ws, rfl, S4, hD, hW⟩ := hP
          obtain ⟨nn, hnn, mnn, rfl, ex2⟩ := at_name hx
          have jl := (List.getElem?_eq_some_iff.mp hnn).1
          have hJ := F1.tree.joined F2.tree dis mnm mnn k1 k2
          have FJ : Fine (pl ++ pl') (ts ++ ts' ++ [(nm, nn, k)]) := ⟨hJ, fun l hl => (List.mem_append.mp hl).elim (F1.ok l) (F2.ok l), by rw [List.length_append]; omega⟩
          -- the tree
          refine ⟨_, rfl, t, _, 0, .ref a, rfl, rfl, SqT.of (S4 _ _ ht), atI_nat (j := 0) rfl, _, rfl, t', _, 0, .ref a', rfl, rfl, SqT.of (S4 _ _ ht'), atI_nat (j := 0) rfl, ?_⟩
          refine cat_any (ha.same S4) (ha'.same S4) (by rw [List.length_map, List.length_map, List.length_map, List.length_map]; exact sz_le (by omega)) fun p1 H5 W1 hp1 => ?_
          have S5 := S4.trans W1
          refine ⟨_, rfl, t, _, 1, .ref b, rfl, rfl, SqT.of (S5 _ _ ht), atI_nat (j := 1) rfl, _, rfl, t', _, 1, .ref b', rfl, rfl, SqT.of (S5 _ _ ht'), atI_nat (j := 1) rfl, ?_⟩
          refine cat_any0 (S5 _ _ hb) (S5 _ _ hb') (sz_le (by omega)) fun p2 H6 W2 hp2 => ?_
          have S6 := S5.trans W2
          refine ⟨_, rfl, _, rfl, _, rfl, (by show 3 ≤ sizeLine; decide), fun g1 ng1 => ⟨(by show 1 ≤ sizeLine; decide), fun g2 ng2 => ?_⟩⟩
          have W3 := same_new (o := .tup [.ref g1]) (same_new (o := .tup [.str (S nm), .str (S nn), .int k]) (Same.refl H6) ng1) ng2
          have hg1 : (upd (upd H6 g1 (.tup [.str (S nm), .str (S nn), .int k])) g2 (.tup [.ref g1])) g1 = some (.tup [.str (S nm), .str (S nn), .int k]) := (TK.new ng2).tup _ _ upd_same
          have hg2 : (upd (upd H6 g1 (.tup [.str (S nm), .str (S nn), .int k])) g2 (.tup [.ref g1])) g2 = some (.tup [.ref g1]) := upd_same
          generalize upd (upd H6 g1 (.tup [.str (S nm), .str (S nn), .int k])) g2 (.tup [.ref g1]) = H7 at W3 hg1 hg2
          refine cat_any0 (xs := vs ++ vs') (ys := [.ref g1]) (W3 _ _ hp2) hg2 (by rw [List.length_append]; exact sz_le (by simp; omega)) fun p3 H8 W4 hp3 => ?_
          refine ⟨(by show 2 ≤ sizeLine; decide), fun tr ntr => ?_⟩
          have W5 := same_new (o := .tup [.ref p1, .ref p3]) W4 ntr
          have W15 : Same H' (upd H8 tr (.tup [.ref p1, .ref p3])) := W1.trans (W2.trans (W3.trans W5))
          have htr : (upd H8 tr (.tup [.ref p1, .ref p3])) tr = some (.tup [.ref p1, .ref p3]) := upd_same
          have hp1' : TupAt (upd H8 tr (.tup [.ref p1, .ref p3])) p1 (((pl ++ pl').map S).map V.str) := by
            rw [List.map_append, List.map_append]
            exact hp1.same (W2.trans (W3.trans W5))
          have hp3' : (upd H8 tr (.tup [.ref p1, .ref p3])) p3 = some (.tup (vs ++ vs' ++ [.ref g1])) := (TK.new ntr).tup _ _ hp3
          have hg1' := W5 _ _ hg1
          have due : Dt (upd H8 tr (.tup [.ref p1, .ref p3])) (.ref tr) (treeD (pl ++ pl') (ts ++ ts' ++ [(nm, nn, k)])) := by
            refine .tup htr (.cons (names_dt hp1' FJ.ne) (.cons (.tup hp3' ?_) .nil))
            rw [List.map_append, List.map_append]
            exact DtAll.app (DtAll.app (DtAll.keep (TK.of (S4.trans W15)) hA) (DtAll.keep (TK.of (S4.trans W15)) hA')) (.cons (.tup hg1' (.cons (.str _) (.cons (.str _) (.cons (.int _) .nil)))) .nil)
          generalize upd H8 tr (.tup [.ref p1, .ref p3]) = H9 at W15 htr hp1' due
          clear W1 W2 W3 W4 W5 hp1 hp2 hp3 hp3' hg1 hg2 hg1' S5 S6
          generalize eT : ts ++ ts' ++ [(nm, nn, k)] = TT at due FJ hJ
          have en : (((pl ++ pl').map S).map V.str).length = (pl ++ pl').length := by rw [List.length_map, List.length_map]
          have al : (pl ++ pl').length ≤ 80 := by rw [List.length_append]; omega
          refine ⟨fun σ' H2 => (∃ x8, σ' = [some (.ref t), some (.ref t'), some (.int k), some (.ref D), some (.str (S nm)), some (.str (S nn)), some (.ref tr), some (.int (joinT pl pl' ts ts' k nm nn).1), x8]) ∧ Same H9 H2, ?_, fun σ' HA hM => ?_⟩
          · refine ⟨_, rfl, tr, _, 0, .ref p1, rfl, rfl, SqT.of htr, atI_nat (j := 0) rfl, p1, rfl, ⟨_, hp1'.sq⟩, for_tup (K := K) (a := p1) (xs := ((pl ++ pl').map S).map V.str) (fun i σ' H2 => ∃ (m : Int) (x8 : Option V), σ' = [some (.ref t), some (.ref t'), some (.int k), some (.ref D), some (.str (S nm)), some (.str (S nn)), some (.ref tr), some (.int m), x8] ∧ Same H9 H2 ∧ (m = 0 ∨ ∃ u ∈ (pl ++ pl').take i, ∃ v ∈ pl ++ pl', dist TT u v = m) ∧ ∀ u ∈ (pl ++ pl').take i, ∀ v ∈ pl ++ pl', dist TT u v ≤ m)
              ⟨0, _, rfl, Same.refl _, .inl rfl, by simp⟩ (fun i σ' H2 _ hP => ?_) (fun i x σ' H2 hx hP => ?_) (fun σ' H2 hP => ?_)⟩
            · obtain ⟨_, _, _, S2, _⟩ := hP
              exact (hp1'.same S2).sq
            · obtain ⟨m, z8, rfl, S2, at0, up⟩ := hP
              obtain ⟨u, hu, mu, rfl, eu⟩ := at_name hx
              refine ⟨_, rfl, (by show 1 ≤ sizeLine; decide), fun q1 m1 => ?_⟩
              have X1 := same_new (o := .lst [.int m]) S2 m1
              have hq1 : (upd H2 q1 (.lst [.int m])) q1 = some (.lst [.int m]) := upd_same
              generalize upd H2 q1 (.lst [.int m]) = K1 at X1 hq1
              refine ⟨_, rfl, _, rfl, .ref tr, _, _, u, rfl, Dt.keep (TK.of X1) due, FJ, mu, fun K2 dd fs X2 nDd hdd nd all => ?_⟩
              refine ⟨dd, _, rfl, hdd, fun q2 m2 => ?_⟩
              rw [dkm_vals]
              have X3 := same_new (o := .lst ((fs.map (dist TT u)).map V.int)) X2 m2
              have fl := nodup_sub_len fs (pl ++ pl') nd fun z hz => (all z).mp hz
              refine ⟨q1, q2, _, _, rfl, rfl, X3 _ _ hq1, upd_same, by rw [List.length_map, List.length_map]; exact sz_le (by simp at *; omega), fun q3 m3 => ?_⟩
              refine ⟨q3, m :: fs.map (dist TT u), rfl, SqL.of upd_same, by simp, fun mm hm hle => ?_⟩
              have X4 := same_new (o := .lst ([V.int m] ++ (fs.map (dist TT u)).map V.int)) (X1.trans X3) m3
              refine ⟨mm, _, rfl, X4, ?_, fun z hz v hv => ?_⟩
              · rcases List.mem_cons.mp hm with e | e
                · rcases at0 with e0 | ⟨z, hz, v, hv, e0⟩
                  · exact .inl (e.trans e0)
                  · exact .inr ⟨z, by rw [eu]; exact List.mem_append_left _ hz, v, hv, e0.trans e.symm⟩
                · obtain ⟨v, hv, e⟩ := List.mem_map.mp e
                  exact .inr ⟨u, by rw [eu]; simp, v, (all v).mp hv, e⟩
              · have hmm := hle m List.mem_cons_self
                rw [eu] at hz
                rcases List.mem_append.mp hz with z1 | z1
                · exact Int.le_trans (up z z1 v hv) hmm
                · rw [List.mem_singleton.mp z1]
                  exact hle _ (List.mem_cons_of_mem _ (List.mem_map.mpr ⟨v, (all v).mpr hv, rfl⟩))
            · obtain ⟨m, z8, rfl, S2, at0, up⟩ := hP
              rw [en, List.take_length] at at0 up
              have mine : ∃ u ∈ pl ++ pl', ∃ v ∈ pl ++ pl', dist TT u v = m := by
                rcases at0 with e0 | h
                · exact ⟨nm, List.mem_append_left _ mnm, nm, List.mem_append_left _ mnm, by rw [(hJ.dist_self nm).1, e0]⟩
                · exact h
              subst eT
              have em := joined_top F1 F2 dis mnm mnn k1 k2 mine up
              rw [em]
              exact ⟨⟨_, rfl⟩, S2⟩
          · obtain ⟨⟨z8, rfl⟩, S9⟩ := hM
            have SA := W15.trans S9
            have hDA := SA _ _ hD
            refine ⟨_, rfl, .inl ⟨rfl, _, SqL.of hDA⟩, _, rfl, _, rfl, _, rfl, (by show 3 ≤ sizeLine; decide), fun g ng => ?_⟩
            have Sg := same_new (o := .tup [.int (joinT pl pl' ts ts' k nm nn).1, .str (S nm), .str (S nn)]) SA ng
            have hg : (upd HA g (.tup [.int (joinT pl pl' ts ts' k nm nn).1, .str (S nm), .str (S nn)])) g = some (.tup [.int (joinT pl pl' ts ts' k nm nn).1, .str (S nm), .str (S nn)]) := upd_same
            generalize upd HA g (.tup [.int (joinT pl pl' ts ts' k nm nn).1, .str (S nm), .str (S nn)]) = HB at Sg hg
            have wl := DtAll.len hW
            rw [List.length_map, List.length_append, joinsOf_len, List.length_map, List.length_take, List.length_take] at wl
            have wl2 : ws.length ≤ 2000 := by
              have h1 : min i pl.length * pl'.length ≤ 40 * 40 := Nat.mul_le_mul (by omega) l2
              omega
            have hDB := Sg _ _ hD
            have tkm := TK.mut (o := .lst (ws ++ [.ref g])) hDB
            refine ⟨D, ws, _, rfl, rfl, hDB, sz_lt (by omega), ?_⟩
            refine ⟨_, _, _, _, ws ++ [.ref g], rfl, same_put (S4.trans Sg) nD, upd_same, ?_⟩
            rw [ex2, List.map_append (l₁ := pl'.take j), ← List.append_assoc, List.map_append (l₂ := List.map _ [nn])]
            exact DtAll.app (DtAll.keep ((TK.of Sg).trans tkm) hW) (.cons (.tup (tkm.tup _ _ hg) (.cons (.int _) (.cons (.str _) (.cons (.str _) .nil)))) .nil)
        · obtain ⟨y5, y6, y7, y8, ws, rfl, S4, hD, hW⟩ := hP
          rw [List.length_map, List.length_map, List.take_length] at hW
          exact ⟨_, _, _, _, _, ws, rfl, S4, hD, hW⟩
      · obtain ⟨x4, x5, x6, x7, x8, ws, rfl, S4, hD, hW⟩ := hP
        rw [List.length_map, List.length_map, List.take_length] at hW
        exact ⟨x4, x5, x6, x7, x8, ws, rfl, S4, hD, hW⟩
end
end Far

namespace Far
open PySem PySem.Spec PyProof.Rows L2
open C8 (pss_cut tCut)
open SX (S)
theorem iteF' {A B : Prop} {b : Bool} (e : b = false) (h : B) : if b = true then A else B := by
  rw [e]
  exact iteF h
theorem iteT' {A B : Prop} {b : Bool} (e : b = true) (h : A) : if b = true then A else B := by
  rw [e]
  exact iteT h
/-- the first that is m long -/
def FE (ps : List Tri) (m : Int) (x : Tri) : Prop := ∃ i : Nat, ps[i]? = some x ∧ x.1 = m ∧ ∀ (j : Nat) (z : Tri), j < i → ps[j]? = some z → z.1 ≠ m
theorem fe_fl {ps : List Tri} {m : Int} {x x' : Tri} (g : Int → Int) (gi : ∀ a b, g a = g b → a = b) (h : FE ps m x) (h' : FL ps (fun z => g z.1) x') (m1 : m ∈ ps.map (·.1)) (m2 : ∀ y ∈ ps.map (·.1), g m ≤ g y) : x = x' := by
  obtain ⟨i, hi, e, bef⟩ := h
  obtain ⟨j, hj, all, bef'⟩ := h'
  dsimp only at all bef'
  have a1 := all i x hi
  have a2 := m2 x'.1 (List.mem_map.mpr ⟨x', List.mem_of_getElem? hj, rfl⟩)
  rw [e] at a1
  have ex : x'.1 = m := gi _ _ (Int.le_antisymm a1 a2)
  rcases Nat.lt_trichotomy i j with c | c | c
  · have := bef' i x c hi
    rw [e, ex] at this
    exact absurd this (Int.lt_irrefl _)
  · subst c
    exact Option.some.inj (hi.symm.trans hj)
  · exact absurd ex (bef j x' c hj)
abbrev s_law_first : Stmt := topS 27
abbrev N_law_first : List Str := ["joins", "far", "join"]
theorem sc_law_first : FnScope N_law_first ["joins", "far"] (defScope s_law_first) := ⟨rfl, rfl, rfl, by decide +kernel, rfl, by decide +kernel, by decide +kernel⟩
section
variable {P : Program} {w : World} {K : PySem.W.Frag} {mg : Str → Option Value} {base : Heap}
def spFirst : Sp := fun vs H Q _ => ∃ (q : Addr) (m : Int) (ws : List V) (ps : List Tri), vs = [.ref q, .int m] ∧ H q = some (.lst ws) ∧ DtAll H ws (ps.map triD) ∧ ps.length ≤ 2000 ∧ m ∈ ps.map (·.1) ∧ ∀ (H' : Hp) (v : V) (x : Tri), Same H H' → FE ps m x → Dt H' v (triD x) → Q v H'
theorem ok_first {f : Addr} {fd : FuncData} (F : Fun K "_law_first" "_law_first" s_law_first f fd) : FnOk P w K mg base CX0 1 f fd ["joins", "far"] spFirst := by
  refine F.ok sc_law_first (fun vs H Q E h => ?_) (fun cdv A outer s H vs Q E hr h => ?_)
  · obtain ⟨q, m, ws, ps, rfl, _⟩ := h
    rfl
  · obtain ⟨qa, m, ws, ps, rfl, hq, hW, pl, hm, q⟩ := h
    have wl := DtAll.len hW
    rw [List.length_map] at wl
    refine ⟨_, (pss_one (ps_ret (pe_ix ix_list (pe_lc (own := [("join", 2)]) (g := gName 2)  rfl sc_law_first.nd (pi_list (pv 0)) (blkOk_by (N := N_law_first) (sc := defScope s_law_first) (by decide +kernel)) (fun _ _ _ _ _ => pg_name (i := 2) sc_law_first.nd rfl (Or.inl rfl)) (fun _ _ _ _ _ => pts_one (pt_cmpR op_eq (pe_ix (ixt (K := K)) (pv 2) pe_int (fun _ _ => rfl)) (pv 1) (nomark _))) (fun _ _ _ _ _ => (pv 2))) pe_int (fun _ _ => rfl)))), ?_⟩
    refine ⟨_, rfl, qa, rfl, ⟨_, SqL.of hq⟩, fun D nD => ?_⟩
    refine lc_list (K := K) (a := qa) (xs := ws) (fun i H' => Same H H' ∧ ∃ acc : List V, H' D = some (.lst acc) ∧ acc.length ≤ i ∧ ((acc = [] ∧ ∀ (j : Nat) (z : Tri), j < i → ps[j]? = some z → z.1 ≠ m) ∨ ∃ (v : V) (r : List V) (n : Nat) (x : Tri), acc = v :: r ∧ ps[n]? = some x ∧ ws[n]? = some v ∧ x.1 = m ∧ ∀ (j : Nat) (z : Tri), j < n → ps[j]? = some z → z.1 ≠ m))
      ⟨same_new (Same.refl H) nD, [], upd_same, Nat.le_refl _, .inl ⟨rfl, fun j z h => absurd h (by omega)⟩⟩ (fun i H' _ hP => SqL.of (hP.1 _ _ hq)) (fun i v H' hi hP => ?_) (fun H' hP => ?_)
    · obtain ⟨SM, acc, hD, al, alt⟩ := hP
      have il := (List.getElem?_eq_some_iff.mp hi).1
      obtain ⟨d, hd, hv⟩ := DtAll.get (DtAll.keep (TK.of SM) hW) hi
      rw [List.getElem?_map] at hd
      cases ex : ps[i]? with
      | none => rw [ex] at hd; cases hd
      | some x =>
        rw [ex] at hd
        cases hd
        obtain ⟨u, rfl, hu⟩ := dt_tri hv
        refine ⟨rfl, _, rfl, u, _, 0, _, rfl, rfl, SqT.of hu, atI_nat (j := 0) rfl, _, rfl, rfl, _, rfl, ?_⟩
        by_cases c : x.1 = m
        · refine iteT' (decide_eq_true (congrArg V.int c)) ⟨_, rfl, _, hD, sz_lt (by omega), same_put SM nD, acc ++ [.ref u], upd_same, by rw [List.length_append, List.length_singleton]; omega, .inr ?_⟩
          rcases alt with ⟨rfl, no⟩ | ⟨v1, r1, n1, x1, e1, e2, e3, e4, e5⟩
          · exact ⟨_, [], i, x, rfl, ex, hi, c, no⟩
          · exact ⟨v1, r1 ++ [.ref u], n1, x1, by rw [e1]; rfl, e2, e3, e4, e5⟩
        · refine iteF' (decide_eq_false fun z => c (V.int.inj z)) ⟨SM, acc, hD, by omega, ?_⟩
          rcases alt with ⟨e0, no⟩ | h
          · refine .inl ⟨e0, fun j z hj hz => ?_⟩
            by_cases ej : j = i
            · subst ej
              rw [ex] at hz
              cases hz
              exact c
            · exact no j z (by omega) hz
          · exact .inr h
    · obtain ⟨SM, acc, hD, al, alt⟩ := hP
      rcases alt with ⟨_, no⟩ | ⟨v1, r1, n1, x1, rfl, e2, e3, e4, e5⟩
      · exfalso
        obtain ⟨x, hx, e⟩ := List.mem_map.mp hm
        obtain ⟨j, hj⟩ := List.getElem?_of_mem hx
        have := (List.getElem?_eq_some_iff.mp hj).1
        exact no j x (by omega) hj e
      · obtain ⟨d, hd, hv⟩ := DtAll.get (DtAll.keep (TK.of SM) hW) e3
        rw [List.getElem?_map, e2] at hd
        cases hd
        exact ⟨D, _, 0, _, rfl, rfl, SqL.of hD, atI_nat (j := 0) rfl, q H' v1 x1 SM ⟨n1, e2, e4, e5⟩ hv⟩
end
end Far

namespace Far
open PySem PySem.Spec PyProof.Rows L2
/-- an error that was caught, of the class at D, with its own dict or without -/
def Ct (H : Hp) (a D : Addr) : Prop := (∃ dd fs, Caught H a D dd fs) ∨ H a = some (caughtO a (.ref D) none)
theorem Ct.same {H H' : Hp} {a D : Addr} (c : Ct H a D) (s : Same H H') : Ct H' a D := c.elim (fun ⟨dd, fs, h⟩ => .inl ⟨dd, fs, h.same s⟩) fun h => .inr (s _ _ h)
section
variable {X : Cx} {pins : List (Addr × Obj)} {σ : L2.St} {H : Hp} {s : Shared}
theorem Ct.kit {a D : Addr} (c : Ct H a D) (T : ExcC X.K D) (I : Inv X pins σ H s) : ∃ P : Heap → Prop, PySem.W.KitX X.K (.ref a) (.ref D) P ∧ P s.heap := by
  rcases c with ⟨dd, fs, hC⟩ | hC
  · obtain ⟨oe, od, mA, J, _⟩ := hC.inst I
    exact ⟨_, kitx_own T, J⟩
  · obtain ⟨oe, vs, ha, hz, hd⟩ := caughtO_at I.hok hC
    exact ⟨_, PySem.W.handS_kitx_exc T.hg T.hk T.hs T.hd T.ha T.hn T.ht T.hm, ⟨ha, hz.1, by unfold PySem.W.notCls; rw [hd] <;> rfl, by rw [hz.2]; trivial⟩⟩
/-- isinstance(e, c) -/
def rIsA (K : PySem.W.Frag) : List V → Hp → VK → Prop := fun xs H Q => ∃ (a D : Addr) (c : V) (cv : Value) (b : Bool), xs = [.ref a, c] ∧ Ct H a D ∧ ExcC K D ∧ ClsV c cv ∧ PySem.W.kitOne K (.ref D) cv = some b ∧ Q (.bl b) H
theorem call_isA {X : Cx} {K : PySem.W.Frag} (eK : X.K = K := by rfl) : CallR X (.builtin "isinstance") (rIsA K) := by
  subst eK
  intro pins s σ H xs us Q I r h
  obtain ⟨a, D, c, cv, b, rfl, hC, T, k, e, q⟩ := h
  obtain ⟨u1, u2, rfl, r1, r2⟩ := vals2 r
  have e2 := k.eq r2
  subst e2
  cases (show u1 = Value.ref a from r1)
  obtain ⟨P, Z, p⟩ := hC.kit T I
  exact PySem.W.kia_one Z I.kIn p e (fun z => nomatch z) fun tk => ⟨.bl b, H, I.kept (t' := tk) fun _ _ z => z, rfl, q⟩
/-- isinstance(e, (c, ..)) -/
def rIsAT (K : PySem.W.Frag) : List V → Hp → VK → Prop := fun xs H Q => ∃ (a D tp : Addr) (cs : List V) (ws : List Value) (b : Bool), xs = [.ref a, .ref tp] ∧ Ct H a D ∧ ExcC K D ∧ H tp = some (.tup cs) ∧ Paired ClsV cs ws ∧ PySem.W.kitAny K (.ref D) ws = some b ∧ Q (.bl b) H
theorem call_isAT {X : Cx} {K : PySem.W.Frag} (eK : X.K = K := by rfl) : CallR X (.builtin "isinstance") (rIsAT K) := by
  subst eK
  intro pins s σ H xs us Q I r h
  obtain ⟨a, D, tp, cs, ws, b, rfl, hC, T, hT, k, e, q⟩ := h
  obtain ⟨u1, u2, rfl, r1, r2⟩ := vals2 r
  cases (show u2 = Value.ref tp from r2)
  cases (show u1 = Value.ref a from r1)
  obtain ⟨P, Z, p⟩ := hC.kit T I
  obtain ⟨_, its, rv, o, h1, h2, n, h3⟩ := (show ObjOk X.prog X.w H s.heap tp (.tup cs) from I.hok tp _ hT)
  have e3 := ClsV.all k rv
  subst e3
  obtain ⟨oc, od, dt, sl⟩ := o
  simp only at h2 h3
  subst h2 h3
  exact PySem.W.kia_tup Z I.kIn p h1 e (fun z => nomatch z) fun tk => ⟨.bl b, H, I.tok tk, rfl, q⟩
end
end Far

namespace Far
open PySem PySem.Spec PyProof.Rows L2
open LamX (Tabs ExtN)
open C8 (pss_cut tCut)
open SX (S)
abbrev s_law_caught : Stmt := topS 28
abbrev N_law_caught : List Str := ["one", "other", "length", "way", "error", "e"]
theorem sc_law_caught : FnScope N_law_caught ["one", "other", "length", "way"] (defScope s_law_caught) := ⟨rfl, rfl, rfl, by decide +kernel, rfl, by decide +kernel, by decide +kernel⟩
section
variable {P : Program} {w : World} {K : PySem.W.Frag} {mg : Str → Option Value} {base : Heap} {J aF Pb Pw : Addr}
def spCaught (J Pb Pw : Addr) : Sp := fun vs H Q _ => ∃ (v v' : V) (pl pl' : List Nm) (ts ts' : List Tie) (k way : Int), vs = [v, v', .int k, .int way] ∧ Dt H v (treeD pl ts) ∧ Dt H v' (treeD pl' ts') ∧ (∀ x ∈ pl, NameOk x) ∧ pl.length ≤ 40 ∧ pl'.length ≤ 40 ∧ Tabs [(Pb, qB), (Pw, qW)] H ∧
  (∃ x ∈ pl, x ∈ pl') ∧ ∀ (H' : Hp) (e : Addr), Same H H' → Ct H' e J → Q (.ref e) H'
theorem ok_caught {f : Addr} {fd : FuncData} (F : Fun K "_law_caught" "_law_caught" s_law_caught f fd) (gF : mg "FarError" = some (.ref aF)) (kJ : PySem.W.exmOne K (.ref J) (.ref aF) = some true) (Cbest_join : CalX P w K mg base 6 "best_join" (spBest J Pb Pw id)) (Cworst_join : CalX P w K mg base 6 "worst_join" (spBest J Pb Pw fun i => -i)) : FnOk P w K mg base CX0 7 f fd ["one", "other", "length", "way"] (spCaught J Pb Pw) := by
  refine F.ok sc_law_caught (fun vs H Q E h => ?_) (fun cdv A outer s H vs Q E hr h => ?_)
  · obtain ⟨v, v', pl, pl', ts, ts', k, way, rfl, _⟩ := h
    rfl
  · obtain ⟨v, v', pl, pl', ts, ts', k, way, rfl, hd, hd', oks, l1, l2, hT, ⟨x, hx, hx'⟩, q⟩ := h
    refine ⟨_, (pss_cons (ps_set (i := 4) sc_law_caught.nd rfl (.inl rfl) pe_non)
      (pss_cons (ps_try_keep (i := 5) (j := 4) rfl rfl rfl sc_law_caught.nd rfl rfl ⟨rfl, by decide, .inl gF⟩ takes0 (fun W pn xe tk _ => pss_one (ps_if (pt_cmpR op_eq (pv 3) pe_int (nomark _)) (pss_one (ps_expr (pe_cX tk Cbest_join hr (by decide) rfl (pa_cons (pv 0) (pa_cons (pv 1) (pa_cons (pv 2) pa_nil)))))) (pss_one (ps_expr (pe_cX tk Cworst_join hr (by decide) rfl (pa_cons (pv 0) (pa_cons (pv 1) (pa_cons (pv 2) pa_nil)))))))) (fun a oe cls d pn _ _ => pss_one (ps_set (i := 4) sc_law_caught.nd rfl (.inl rfl) (pv 5))) (fun D σ H a h1 h2 => ⟨.ref a, h1, h2⟩))
      (pss_one (ps_ret (pv 4))))), ?_⟩
    have no : ¬ ∀ x ∈ pl, x ∉ pl' := fun z => z x hx hx'
    have fin : ∀ H' : Hp, Same H H' → ∀ e : Addr, H' e = none → Q (.ref e) (upd H' e (caughtO e (.ref J) none)) := fun H' sm e ne => q _ e (same_new sm ne) (.inr upd_same)
    refine ⟨_, rfl, rfl, _, rfl, ?_⟩
    refine ite2 (fun z => ?_) (fun z => ?_)
    · refine ⟨_, rfl, _, rfl, _, rfl, v, v', pl, pl', ts, ts', k, rfl, hd, hd', oks, l1, l2, hT, fun dis => absurd dis no, fun _ H' sm => ?_⟩
      exact ⟨true, kJ, fun _ e ne => ⟨_, rfl, fin H' sm e ne⟩, fun z => by cases z⟩
    · refine ⟨_, rfl, _, rfl, _, rfl, v, v', pl, pl', ts, ts', k, rfl, hd, hd', oks, l1, l2, hT, fun dis => absurd dis no, fun _ H' sm => ?_⟩
      exact ⟨true, kJ, fun _ e ne => ⟨_, rfl, fin H' sm e ne⟩, fun z => by cases z⟩
end
end Far

namespace Far
open PySem PySem.Spec PyProof.Rows L2
open C8 (pss_cut tCut)
open SX (S)
theorem bt_ValueError : bootBuiltins ("ValueError" : Str) = some (.type "ValueError") := by decide +kernel
/-- the classes, and what isinstance says of a NoJoin (J) and of a NoPlace (C) -/
structure KindJ (K : PySem.W.Frag) (mg : Str → Option Value) (J C aA aT : Addr) : Prop where
  gNoAsk : mg "NoAsk" = some (.ref aA)
  gNoPlace : mg "NoPlace" = some (.ref C)
  gNoTree : mg "NoTree" = some (.ref aT)
  gNoJoin : mg "NoJoin" = some (.ref J)
  excJ : ExcC K J
  excC : ExcC K C
  xf : XfC K C
  no : PySem.W.findIn K (.ref C) "name" = some none
  jA : PySem.W.kitOne K (.ref J) (.ref aA) = some false
  jC : PySem.W.kitOne K (.ref J) (.ref C) = some false
  jT : PySem.W.kitOne K (.ref J) (.ref aT) = some false
  jV : PySem.W.kitOne K (.ref J) (.type "ValueError") = some true
  cA : PySem.W.kitOne K (.ref C) (.ref aA) = some false
  cJ : PySem.W.kitOne K (.ref C) (.ref J) = some false
  cT : PySem.W.kitOne K (.ref C) (.ref aT) = some false
  cV : PySem.W.kitOne K (.ref C) (.type "ValueError") = some true
structure TxtI (mg : Str → Option Value) : Prop where
  isinstance : mg "isinstance" = none
  ValueError : mg "ValueError" = none
theorem kit_self {K : PySem.W.Frag} {a : Addr} : PySem.W.kitOne K (.ref a) (.ref a) = some true := by
  unfold PySem.W.kitOne
  rw [if_pos (by simp)]
theorem kit_none {K : PySem.W.Frag} {t x y z : Value} (h1 : PySem.W.kitOne K t x = some false) (h2 : PySem.W.kitOne K t y = some false) (h3 : PySem.W.kitOne K t z = some false) : PySem.W.kitAny K t [x, y, z] = some false :=
  kitAny_cons h1 (fun _ => kitAny_cons h2 (fun _ => kitAny_cons h3 (fun _ => rfl) fun z => by cases z) fun z => by cases z) fun z => by cases z
end Far

namespace Far
open PySem PySem.Spec PyProof.Rows L2
open C8 (pss_cut tCut)
open SX (S)
open RZ (ItzT iZipA pi_zipA)
structure TxtS (mg : Str → Option Value) : Prop where
  isinstance : mg "isinstance" = none
  tuple : mg "tuple" = none
  str : mg "str" = none
  int : mg "int" = none
  bool : mg "bool" = none
  len : mg "len" = none
  zip : mg "zip" = none
/-- what two told things have in common: texts, whole numbers, tuples of such -/
inductive Plain : Nat → PyData → Prop
  | non (n : Nat) : Plain (n + 1) .none
  | str (n : Nat) (x : Str) : Plain (n + 1) (.str x)
  | int (n : Nat) (i : Int) : Plain (n + 1) (.int i)
  | tup {n : Nat} {ds : List PyData} : (∀ d ∈ ds, Plain n d) → ds.length ≤ 1000 → Plain (n + 1) (.tuple ds)
abbrev s_law_same : Stmt := topS 21
abbrev N_law_same : List Str := ["found", "due", "one", "other"]
theorem sc_law_same : FnScope N_law_same ["found", "due"] (defScope s_law_same) := ⟨rfl, rfl, rfl, by decide +kernel, rfl, by decide +kernel, by decide +kernel⟩
section
variable {P : Program} {w : World} {K : PySem.W.Frag} {mg : Str → Option Value} {base : Heap}
/-- two that stand for the same data (of depth below n) are the same -/
def spSame (n : Nat) : Sp := fun vs H Q _ => ∃ (u v : V) (d : PyData), vs = [u, v] ∧ Dt H u d ∧ Dt H v d ∧ Plain n d ∧ ∀ H' : Hp, Same H H' → Q (.bl true) H'
theorem ok_same {f : Addr} {fd : FuncData} {n k : Nat} (hk : 1 ≤ k) (F : Fun K "_law_same" "_law_same" s_law_same f fd) (T : TxtS mg) (C_law_same : Cal P w K mg base k "_law_same" (spSame n)) : FnOk P w K mg base CX0 (k + 1) f fd ["found", "due"] (spSame (n + 1)) := by
  refine F.ok sc_law_same (fun vs H Q E h => ?_) (fun cdv A outer s H vs Q E hr h => ?_)
  · obtain ⟨u, v, d, rfl, _⟩ := h
    rfl
  · obtain ⟨u, v, d, rfl, hu, hv, hp, q⟩ := h
    refine ⟨_, (pss_cut (ps_if (pt_cmpR op_isN (pv 1) pe_non (nomark _))
        (pss_one (ps_ret (pe_cmpR op_isN (pv 0) pe_non (nomark _))))
        pss_nil)
      (pss_cut (ps_if (pt_val (pe_callB call_isi (by rfl) T.isinstance bt_isinstance (pa_cons (pv 1) (pa_cons (pe_bltn (v := .ty "tuple") (by rfl) T.tuple bt_tuple rfl) pa_nil))))
        (pss_cut (ps_if (PW.pt (pw_or (pt_not (pt_val (pe_callB call_isi (by rfl) T.isinstance bt_isinstance (pa_cons (pv 0) (pa_cons (pe_bltn (v := .ty "tuple") (by rfl) T.tuple bt_tuple rfl) pa_nil))))) (pw_or1 (pt_cmpR op_ne (pe_callB call_len_seq (by rfl) T.len bt_len (pa_cons (pv 0) pa_nil)) (pe_callB call_len_seq (by rfl) T.len bt_len (pa_cons (pv 1) pa_nil)) (nomark _)))))
          (pss_one (ps_ret pe_bl))
          pss_nil)
        (pss_one (ps_ret (pe_cmpR (op_eqD (hd_of hr hk)) (pe_lc (own := [("one", 2), ("other", 3)]) (g := gTup K 2 (gCons (gName 2) (gCons (gName 3) gNil)))  rfl sc_law_same.nd (pi_zipA (by rfl) T.zip (pa_cons (pv 0) (pa_cons (pv 1) pa_nil))) (blkOk_by (N := N_law_same) (sc := defScope s_law_same) (by decide +kernel)) (fun _ _ _ _ _ => (pg_tup rfl (pgs_cons (pg_name (i := 2) sc_law_same.nd rfl (.inl rfl)) (pgs_cons (pg_name (i := 3) sc_law_same.nd rfl (.inl rfl)) pgs_nil)))) (fun _ _ _ _ _ => pts_one (pt_not (pt_val (pe_c C_law_same hr (Nat.le_refl _) rfl (pa_cons (pv 2) (pa_cons (pv 3) pa_nil)))))) (fun _ _ _ _ _ => pe_int)) (pe_lst pa_nil) (nomark _)))))
        pss_nil)
      (pss_cut (ps_if (pt_val (pe_callB call_isi (by rfl) T.isinstance bt_isinstance (pa_cons (pv 1) (pa_cons (pe_bltn (v := .ty "str") (by rfl) T.str bt_str rfl) pa_nil))))
        (pss_one (ps_ret (pe_and (pe_callB call_isi (by rfl) T.isinstance bt_isinstance (pa_cons (pv 0) (pa_cons (pe_bltn (v := .ty "str") (by rfl) T.str bt_str rfl) pa_nil))) (pe_one (pe_cmpR op_eq (pv 0) (pv 1) (nomark _))))))
        pss_nil)
      (pss_one (ps_ret (pe_and (pe_callB call_isi (by rfl) T.isinstance bt_isinstance (pa_cons (pv 0) (pa_cons (pe_bltn (v := .ty "int") (by rfl) T.int bt_int rfl) pa_nil))) (pe_and (pe_not (pe_callB call_isi (by rfl) T.isinstance bt_isinstance (pa_cons (pv 0) (pa_cons (pe_bltn (v := .ty "bool") (by rfl) T.bool bt_bool rfl) pa_nil)))) (pe_one (pe_cmpR op_eq (pv 0) (pv 1) (nomark _)))))))))), ?_⟩
    cases hp with
    | non _ =>
      cases hu
      cases hv
      refine ⟨fun _ _ => False, ?_, fun _ _ z => z.elim⟩
      exact ⟨_, rfl, rfl, _, rfl, iteT ⟨_, rfl, rfl, q _ (Same.refl _)⟩⟩
    | str _ x =>
      cases hu
      cases hv
      refine ⟨fun σ' H' => σ' = [some (.str x), some (.str x), none, none] ∧ H = H', ⟨_, rfl, rfl, _, rfl, iteF ⟨rfl, rfl⟩⟩, fun σ' H' hM => ?_⟩
      obtain ⟨rfl, rfl⟩ := hM
      refine ⟨fun σ' H' => σ' = [some (.str x), some (.str x), none, none] ∧ H' = H, ?_, fun σ' H' hM => ?_⟩
      · exact ⟨_, rfl, _, _, _, _, false, rfl, .ty _, .base (.str x), kit_cls K (by decide +kernel), _, rfl, iteF ⟨rfl, rfl⟩⟩
      · obtain ⟨rfl, rfl⟩ := hM
        refine ⟨fun σ' H' => False, ?_, fun σ' H' hM => hM.elim⟩
        refine ⟨_, rfl, _, _, _, _, true, rfl, .ty _, .base (.str x), kit_cls K (by decide +kernel), _, rfl, iteT ?_⟩
        refine ⟨_, rfl, _, _, _, _, true, rfl, .ty _, .base (.str x), kit_cls K (by decide +kernel), _, rfl, iteT ⟨_, rfl, _, rfl, by simp [scal], ?_⟩⟩
        rw [decide_eq_true rfl]
        exact q _ (Same.refl _)
    | int _ x =>
      cases hu
      cases hv
      refine ⟨fun σ' H' => σ' = [some (.int x), some (.int x), none, none] ∧ H = H', ⟨_, rfl, rfl, _, rfl, iteF ⟨rfl, rfl⟩⟩, fun σ' H' hM => ?_⟩
      obtain ⟨rfl, rfl⟩ := hM
      refine ⟨fun σ' H' => σ' = [some (.int x), some (.int x), none, none] ∧ H' = H, ?_, fun σ' H' hM => ?_⟩
      · exact ⟨_, rfl, _, _, _, _, false, rfl, .ty _, .base (.int x), kit_cls K (by decide +kernel), _, rfl, iteF ⟨rfl, rfl⟩⟩
      · obtain ⟨rfl, rfl⟩ := hM
        refine ⟨fun σ' H'' => σ' = [some (.int x), some (.int x), none, none] ∧ H'' = H', ?_, fun σ' H'' hM => ?_⟩
        · exact ⟨_, rfl, _, _, _, _, false, rfl, .ty _, .base (.int x), kit_cls K (by decide +kernel), _, rfl, iteF ⟨rfl, rfl⟩⟩
        · obtain ⟨rfl, rfl⟩ := hM
          refine ⟨_, rfl, _, _, _, _, true, rfl, .ty _, .base (.int x), kit_cls K (by decide +kernel), _, rfl, iteT ?_⟩
          refine ⟨_, rfl, _, _, _, _, false, rfl, .ty _, .base (.int x), kit_cls K (by decide +kernel), _, rfl, _, rfl, iteT ⟨_, rfl, _, rfl, by simp [scal], ?_⟩⟩
          rw [decide_eq_true rfl]
          exact q _ (Same.refl _)
    | @tup _ ds hds hl =>
      obtain ⟨a, xs, rfl, ha, hA⟩ := dt_any hu
      obtain ⟨b, ys, rfl, hb, hB⟩ := dt_any hv
      have l1 := DtAll.len hA
      have l2 := DtAll.len hB
      refine ⟨fun σ' H' => σ' = [some (.ref a), some (.ref b), none, none] ∧ H = H', ⟨_, rfl, rfl, _, rfl, iteF ⟨rfl, rfl⟩⟩, fun σ' H' hM => ?_⟩
      obtain ⟨rfl, rfl⟩ := hM
      refine ⟨fun σ' H' => False, ?_, fun σ' H' hM => hM.elim⟩
      refine ⟨_, rfl, _, _, _, _, true, rfl, .ty _, hb.ty, kit_cls K (by decide +kernel), _, rfl, iteT ?_⟩
      refine ⟨fun σ' H' => σ' = [some (.ref a), some (.ref b), none, none] ∧ H' = H, ?_, fun σ' H' hM => ?_⟩
      · refine ⟨_, rfl, _, _, _, _, true, rfl, .ty _, ha.ty, kit_cls K (by decide +kernel), _, rfl, iteF ?_⟩
        refine ⟨_, rfl, a, _, rfl, .inr ha.sq, _, rfl, b, _, rfl, .inr hb.sq, rfl, _, rfl, ?_⟩
        rw [l1, l2, decide_eq_true rfl]
        exact iteF ⟨rfl, rfl⟩
      · obtain ⟨rfl, rfl⟩ := hM
        refine ⟨_, rfl, _, rfl, a, b, xs, ys, rfl, .inr ⟨ha.sq, hb.sq, fun D nD => ?_⟩⟩
        refine zip_it (by omega) (fun i H'' => Same H' H'' ∧ H'' D = some (.lst [])) ⟨same_new (Same.refl H') nD, upd_same⟩ (fun i H'' hP => ⟨(ha.same hP.1).sq, (hb.same hP.1).sq⟩) (fun i x y H'' T hx hy hP nT => ?_) (fun H'' hP => ?_)
        · obtain ⟨d1, hd1, hx'⟩ := DtAll.get hA hx
          obtain ⟨d2, hd2, hy'⟩ := DtAll.get hB hy
          have ed : d1 = d2 := Option.some.inj (hd1.symm.trans hd2)
          subst ed
          have sT : Same H' (upd H'' T (.tup [x, y])) := same_new hP.1 nT
          refine ⟨T, _, rfl, SqT.of upd_same, rfl, _, _, rfl, _, _, rfl, rfl, rfl, ?_⟩
          refine ⟨_, rfl, _, rfl, x, y, d1, rfl, Dt.keep (TK.of sT) hx', Dt.keep (TK.of sT) hy', hds d1 (List.mem_of_getElem? hd1), fun H3 S3 => ?_⟩
          refine ⟨_, rfl, iteF ⟨sT.trans S3, S3 _ _ ?_⟩⟩
          rw [upd_ne (ne_of_none hP.2 nT)]
          exact hP.2
        · refine ⟨Nat.zero_le _, fun p np => ?_⟩
          refine ⟨_, _, .lst (SqL.of (by rw [upd_ne (ne_of_none hP.2 np)]; exact hP.2)) .nil, .lst (SqL.of upd_same) .nil, rfl, rfl, ?_⟩
          exact q _ (same_new hP.1 np)
end
end Far

namespace Far
open PySem PySem.Spec PyProof.Rows L2
open C8 (pss_cut tCut)
open SX (S)
def pre (j : Nat) : Nm := [97 + j % 26] ++ [97 + j / 26 % 26]
theorem pre_inj {i j : Nat} (hi : i < 676) (hj : j < 676) (h : pre i = pre j) : i = j := by
  unfold pre at h
  simp at h
  omega
/-- names taken already: a list of them or a tuple -/
def TakenAt (H : Hp) (p : Addr) (ls : List Nm) : Prop := NamesAt H p ls ∨ TupAt H p ((ls.map S).map V.str)
theorem TakenAt.mv {H H' : Hp} {p d : Addr} {ls : List Nm} (h : TakenAt H p ls) (s : SmX d H H') (n : p ≠ d) : TakenAt H' p ls :=
  h.elim (fun h => .inl (s p _ n h)) fun h => .inr (h.elim (fun h => .inl (s p _ n h)) fun ⟨o, e, h⟩ => .inr ⟨o, e, s p _ n h⟩)
theorem TakenAt.sq {K : PySem.W.Frag} {H : Hp} {p : Addr} {ls : List Nm} (h : TakenAt H p ls) : SqL K H p ((ls.map S).map V.str) ∨ SqT K H p ((ls.map S).map V.str) := h.elim (fun h => .inl (SqL.of h)) fun h => .inr h.sq
/-- the names found so far, the turns that found none -/
structure Fnd (fs tks : List Nm) (t : Nat) (js : List Nat) : Prop where
  nd : fs.Nodup
  ok : ∀ l ∈ fs, NameOk l
  un : ∀ l ∈ fs, l ∉ tks
  jn : js.Nodup
  jl : ∀ j ∈ js, j < t ∧ pre j ∈ (fs ++ tks).map (List.take 2)
  eq : t = fs.length + js.length
theorem Fnd.le {fs tks : List Nm} {t : Nat} {js : List Nat} (h : Fnd fs tks t js) (ht : t ≤ 676) : t ≤ 2 * fs.length + tks.length := by
  have nd : (js.map pre).Nodup := by
    rw [List.Nodup, List.pairwise_map]
    have := h.jn
    rw [List.Nodup] at this
    exact List.Pairwise.imp_of_mem (fun {a b} ha hb ne e => ne (pre_inj (by have := (h.jl a ha).1; omega) (by have := (h.jl b hb).1; omega) e)) this
  have := nodup_sub_len _ ((fs ++ tks).map (List.take 2)) nd fun x hx => by
    obtain ⟨j, hj, rfl⟩ := List.mem_map.mp hx
    exact (h.jl j hj).2
  rw [List.length_map, List.length_map, List.length_append] at this
  have := h.eq
  omega
theorem Fnd.hit {fs tks : List Nm} {t : Nat} {js : List Nat} {l : Nm} (h : Fnd fs tks t js) (ok : NameOk l) (n1 : l ∉ fs) (n2 : l ∉ tks) : Fnd (fs ++ [l]) tks (t + 1) js := by
  refine ⟨nd_snoc' h.nd n1, fun x hx => ?_, fun x hx => ?_, h.jn, fun j hj => ?_, by rw [List.length_append, List.length_singleton]; have := h.eq; omega⟩
  · rcases List.mem_append.mp hx with z | z
    · exact h.ok x z
    · rw [List.mem_singleton.mp z]
      exact ok
  · rcases List.mem_append.mp hx with z | z
    · exact h.un x z
    · rw [List.mem_singleton.mp z]
      exact n2
  · obtain ⟨h1, h2⟩ := h.jl j hj
    refine ⟨by omega, ?_⟩
    rw [List.map_append] at h2 ⊢
    rw [List.map_append]
    rcases List.mem_append.mp h2 with z | z
    · exact List.mem_append_left _ (List.mem_append_left _ z)
    · exact List.mem_append_right _ z
theorem Fnd.miss {fs tks : List Nm} {t : Nat} {js : List Nat} {l : Nm} (h : Fnd fs tks t js) (e : l.take 2 = pre t) (n : l ∈ fs ∨ l ∈ tks) : Fnd fs tks (t + 1) (js ++ [t]) := by
  refine ⟨h.nd, h.ok, h.un, nd_snoc' h.jn fun z => by have := (h.jl t z).1; omega, fun j hj => ?_, by rw [List.length_append, List.length_singleton]; have := h.eq; omega⟩
  rcases List.mem_append.mp hj with z | z
  · obtain ⟨h1, h2⟩ := h.jl j z
    exact ⟨by omega, h2⟩
  · rw [List.mem_singleton.mp z]
    exact ⟨by omega, List.mem_map.mpr ⟨l, List.mem_append.mpr n, e⟩⟩
abbrev s_law_names : Stmt := topS 22
abbrev N_law_names : List Str := ["deck", "many", "taken", "letters", "way", "stem", "at", "found", "turn", "name", "k"]
theorem sc_law_names : FnScope N_law_names ["deck", "many", "taken"] (defScope s_law_names) := ⟨rfl, rfl, rfl, by decide +kernel, rfl, by decide +kernel, by decide +kernel⟩
section
variable {P : Program} {w : World} {K : PySem.W.Frag} {mg : Str → Option Value} {base : Heap}
def spNames : Sp := fun vs H Q _ => ∃ (d tk : Addr) (n many : Nat) (tks : List Nm), vs = [.ref d, .int many, .ref tk] ∧ SeedAt H d n ∧ n < 90000 ∧ 1 ≤ many ∧ many ≤ 30 ∧ tk ≠ d ∧ TakenAt H tk tks ∧ tks.length ≤ 40 ∧
  ∀ (H' : Hp) (p : Addr) (fs : List Nm), fs.length = many → fs.Nodup → (∀ l ∈ fs, NameOk l) → (∀ l ∈ fs, l ∉ tks) → H p = none → p ≠ d → NamesAt H' p fs → SmX d H H' → SeedAt H' d (n + 1100) → Q (.ref p) H'
theorem ok_names {f : Addr} {fd : FuncData} (F : Fun K "_law_names" "_law_names" s_law_names f fd) (T : TxtG mg) (C_law_draw : Cal P w K mg base 1 "_law_draw" spDraw) : FnOk P w K mg base CX0 2 f fd ["deck", "many", "taken"] spNames := by
  refine F.ok sc_law_names (fun vs H Q E h => ?_) (fun cdv A outer s H vs Q E hr h => ?_)
  · obtain ⟨d, tk, n, many, tks, rfl, _⟩ := h
    rfl
  · obtain ⟨d, tk, n, many, tks, rfl, hD, hn, m1, m30, ntd, hT, ltk, q⟩ := h
    refine ⟨_, (pss_cons (ps_set (i := 3) sc_law_names.nd rfl (.inr rfl) pe_str)
      (pss_cons (ps_set (i := 4) sc_law_names.nd rfl (.inl rfl) (pe_c C_law_draw hr (by decide) rfl (pa_cons (pv 0) (pa_cons pe_int pa_nil))))
      (pss_cons (ps_set (i := 5) sc_law_names.nd rfl (.inl rfl) (pe_join pe_str (pe_lc (own := [("k", 10)]) (g := gName 10) (tt := tYes) rfl sc_law_names.nd (pi_range1 (by rfl) T.range (pa_cons pe_int pa_nil)) (blkOk_by (N := N_law_names) (sc := defScope s_law_names) (by decide +kernel)) (fun _ _ _ _ _ => pg_name (i := 10) sc_law_names.nd rfl (Or.inl rfl)) (fun _ _ _ _ _ => pts_nil) (fun _ _ _ _ _ => (pe_ix ix_str (pv 3) (pe_c C_law_draw hr (by decide) rfl (pa_cons (pv 0) (pa_cons pe_int pa_nil))) (fun _ _ => rfl))))))
      (pss_cons (ps_set (i := 6) sc_law_names.nd rfl (.inl rfl) (pe_c C_law_draw hr (by decide) rfl (pa_cons (pv 0) (pa_cons pe_int pa_nil))))
      (pss_cons (ps_set (i := 7) sc_law_names.nd rfl (.inl rfl) (pe_lst pa_nil))
      (pss_cons (ps_set (i := 8) sc_law_names.nd rfl (.inl rfl) pe_int)
      (pss_cut (ps_while PassesOwn.never (pt_cmpR op_lt (pe_callB call_len_seq (by rfl) T.len bt_len (pa_cons (pv 7) pa_nil)) (pv 1) (nomark _))
        (pss_cons (ps_set (i := 9) sc_law_names.nd rfl (.inl rfl) (pe_ix ix_str (pv 3) (pe_c C_law_draw hr (by decide) rfl (pa_cons (pv 0) (pa_cons pe_int pa_nil))) (fun _ _ => rfl)))
        (pss_cut (ps_if (pt_cmpR op_eq (pv 4) pe_int (nomark _))
          (pss_one (ps_set (i := 9) sc_law_names.nd rfl (.inl rfl) (pe_join pe_str (pe_lc (own := [("k", 10)]) (g := gName 10) (tt := tYes) rfl sc_law_names.nd (pi_range1 (by rfl) T.range (pa_cons (pe_op op_add pe_int (pe_c C_law_draw hr (by decide) rfl (pa_cons (pv 0) (pa_cons pe_int pa_nil)))) pa_nil)) (blkOk_by (N := N_law_names) (sc := defScope s_law_names) (by decide +kernel)) (fun _ _ _ _ _ => pg_name (i := 10) sc_law_names.nd rfl (Or.inl rfl)) (fun _ _ _ _ _ => pts_nil) (fun _ _ _ _ _ => (pe_ix ix_str (pv 3) (pe_c C_law_draw hr (by decide) rfl (pa_cons (pv 0) (pa_cons pe_int pa_nil))) (fun _ _ => rfl)))))))
          pss_nil)
        (pss_cut (ps_if (pt_cmpR op_eq (pv 4) pe_int (nomark _))
          (pss_one (ps_set (i := 9) sc_law_names.nd rfl (.inl rfl) (pe_op op_add_str (pe_op op_add_str (pe_slice C8.sl_txt (pv 5) po_none (po_some (pv 6))) (pv 9)) (pe_slice C8.sl_txt (pv 5) (po_some (pe_op op_add (pv 6) pe_int)) po_none))))
          pss_nil)
        (pss_cut (ps_if (PW.pt (pw_or (pt_cmpR op_in_seq (pv 9) (pv 7) rfl) (pw_or1 (pt_cmpR op_in_seq (pv 9) (pv 2) rfl))))
          (pss_one (ps_set (i := 9) sc_law_names.nd rfl (.inl rfl) (pe_op op_add_str (pe_op op_add_str (pe_ix ix_str (pv 3) (pe_op op_mod (pv 8) pe_int) (fun _ _ => rfl)) (pe_ix ix_str (pv 3) (pe_op op_mod (pe_op op_fdiv (pv 8) pe_int) pe_int) (fun _ _ => rfl))) (pe_slice C8.sl_txt (pv 9) po_none (po_some pe_int)))))
          pss_nil)
        (pss_cut (ps_if (PW.pt (pw_and (pt_cmpR op_notIn_seq (pv 9) (pv 7) rfl) (pw_and1 (pt_cmpR op_notIn_seq (pv 9) (pv 2) rfl))))
          (pss_one (ps_expr (pe_bm PySem.F.plainAttrs_list PySem.F.slot_list_append PySem.F.type_list_append mt_append (pv 7) (pa_cons (pv 9) pa_nil))))
          pss_nil)
        (pss_one (ps_set (i := 8) sc_law_names.nd rfl (.inl rfl) (pe_op op_add (pv 8) pe_int)))))))))
      (pss_one (ps_ret (pv 7)))))))))), ?_⟩
    -- way, stem, at
    refine ⟨_, rfl, d, _, 3, rfl, hD, by omega, by decide, by decide, fun H1 way w0 w1 S1 D1 => ?_⟩
    refine ⟨⟨_, rfl⟩, 8, rfl, by decide, by decide, fun D nD => ?_⟩
    have nDd : D ≠ d := D1.nd nD
    have D0 : H D = none := SmX.free S1 nD nDd
    refine lc_range (lo := 0) (n := (8 : Int).toNat) (fun i H' => ∃ cs : List Nat, cs.length = i ∧ (∀ c ∈ cs, 97 ≤ c ∧ c ≤ 122) ∧ H' D = some (.lst ((cs.map fun c => S [c]).map V.str)) ∧ SmX d H H' ∧ SeedAt H' d (n + 1 + i)) ⟨[], rfl, by simp, upd_same, S1.new nD, D1.new nD⟩ (fun i H' hi hP => ?_) (fun H' hP => ?_)
    · obtain ⟨cs, hlc, hc, hD', SM, DD⟩ := hP
      have hi : i < 8 := hi
      refine ⟨rfl, _, rfl, _, rfl, d, _, 26, rfl, DD, by omega, by decide, by decide, fun H4 r4 r40 r41 S4 D4 => ?_⟩
      obtain ⟨v, hv, mv⟩ := atI_in (xs := abc.cps.toList) r40 (by rw [abc_len]; exact r41)
      refine ⟨abc, r4, v, rfl, rfl, by decide, hv, ?_⟩
      refine ⟨_, S4 D _ nDd hD', by rw [List.length_map, List.length_map]; exact sz_lt (by omega), cs ++ [v], by simp [hlc], fun c hc' => ?_, ?_, (SM.trans S4).put D0, D4.put nDd⟩
      · rcases List.mem_append.mp hc' with z | z
        · exact hc c z
        · rw [List.mem_singleton.mp z]
          exact abc_ok v mv
      · rw [upd_same, List.map_append, List.map_append]
        rfl
    obtain ⟨cs, hlc, hc, hD', SM, DD⟩ := hP
    refine ⟨_, D, cs.map (fun c => S [c]), rfl, rfl, .inl (SqL.of hD'), ?_, ?_⟩
    · rw [one_sum']
      have : ((("" : Str)).length) = 0 := rfl
      rw [this, List.length_map]
      omega
    have e : Txt.join ("" : Str) (cs.map fun c => S [c]) = S cs := by
      have := SX.join_S [] (cs.map fun c => [c])
      rw [List.map_map] at this
      rw [join_none, flat_one] at this
      exact this
    rw [e]
    have lcs : cs.length = 8 := hlc
    clear hlc hD' e
    refine ⟨_, rfl, d, _, 8, rfl, DD, by omega, by decide, by decide, fun H2 at' a0 a1 S2 D2 => ?_⟩
    have SM2 := SM.trans S2
    refine ⟨Nat.zero_le _, fun p np => ?_⟩
    have npd : p ≠ d := D2.nd np
    have np0 : H p = none := SmX.free SM2 np npd
    have SM3 : SmX d H (upd H2 p (.lst [])) := SM2.new np
    have D3 : SeedAt (upd H2 p (.lst [])) d (n + 10 + 10 * 0) := (D2.new np).mono (by show n + 1 + 8 + 1 ≤ _; omega)
    have hN3 : NamesAt (upd H2 p (.lst [])) p [] := upd_same
    generalize upd H2 p (.lst []) = H3 at SM3 D3 hN3
    refine ⟨fun σ' H' => ∃ (fs : List Nm) (t : Nat) (x8 x9 : Option V), σ' = [some (.ref d), some (.int many), some (.ref tk), some (.str abc), some (.int way), some (.str (S cs)), some (.int at'), some (.ref p), x8, x9, none] ∧ (∃ js, Fnd fs tks t js) ∧ t ≤ 100 ∧ fs.length = many ∧ NamesAt H' p fs ∧ SmX d H H' ∧ SeedAt H' d (n + 10 + 10 * t), ?_, fun σ' H' hM => ?_⟩
    · refine ⟨fun m σ' H' => ∃ (fs : List Nm) (t : Nat) (js : List Nat) (x9 : Option V), σ' = [some (.ref d), some (.int many), some (.ref tk), some (.str abc), some (.int way), some (.str (S cs)), some (.int at'), some (.ref p), some (.int t), x9, none] ∧ Fnd fs tks t js ∧ t + m = 500 ∧ fs.length ≤ many ∧ NamesAt H' p fs ∧ SmX d H H' ∧ SeedAt H' d (n + 10 + 10 * t), ⟨500, [], 0, [], none, rfl, ⟨by simp, by simp, by simp, by simp, by simp, rfl⟩, rfl, Nat.zero_le _, hN3, SM3, D3⟩, ?_⟩
      rintro m' σ' H' ⟨fs, t, js, x9, rfl, hF, em, lf, hN, SM', D'⟩
      have tb := hF.le (by omega)
      refine ⟨_, rfl, p, _, rfl, .inl (SqL.of hN), _, rfl, _, _, rfl, rfl, _, rfl, ?_⟩
      rw [List.length_map, List.length_map]
      refine ite2 (fun e => ?_) (fun e => ⟨fs, t, _, _, rfl, ⟨js, hF⟩, by omega, by have e : ¬ ((fs.length : Int) < many) := fun z => e (decide_eq_true z); omega, hN, SM', D'⟩)
      have e := of_decide_eq_true e
      have lf2 : fs.length < many := by omega
      refine ⟨fun σ'' H'' => ∃ (fs' : List Nm) (js' : List Nat) (x9 : Option V), σ'' = [some (.ref d), some (.int many), some (.ref tk), some (.str abc), some (.int way), some (.str (S cs)), some (.int at'), some (.ref p), some (.int ((t : Int) + 1)), x9, none] ∧ Fnd fs' tks (t + 1) js' ∧ fs'.length ≤ many ∧ NamesAt H'' p fs' ∧ SmX d H H'' ∧ SeedAt H'' d (n + 10 + 10 * (t + 1)), ?_, ?_⟩
      · rintro σ'' H'' ⟨fs', js', x9, rfl, h1, h2, h3, h4, h5⟩
        exact ⟨m' - 1, by omega, fs', t + 1, js', x9, rfl, h1, by omega, h2, h3, h4, h5⟩
      -- name
      refine ⟨_, rfl, _, rfl, d, _, 26, rfl, D', by omega, by decide, by decide, fun H4 r4 r40 r41 S4 D4 => ?_⟩
      obtain ⟨v, hv, mv⟩ := atI_in (xs := abc.cps.toList) r40 (by rw [abc_len]; exact r41)
      refine ⟨abc, r4, v, rfl, rfl, by decide, hv, ?_⟩
      have okv := abc_ok v mv
      have SM4 := SM'.trans S4
      have hN4 : NamesAt H4 p fs := S4 p _ npd hN
      refine ⟨fun σ'' H'' => ∃ l : Nm, σ'' = [some (.ref d), some (.int many), some (.ref tk), some (.str abc), some (.int way), some (.str (S cs)), some (.int at'), some (.ref p), some (.int t), some (.str (S l)), none] ∧ NameOk l ∧ (way = 2 → l.length = 1) ∧ NamesAt H'' p fs ∧ SmX d H H'' ∧ SeedAt H'' d (n + 10 + 10 * t + 10), ?_, fun σ'' H'' hM => ?_⟩
      · refine ⟨_, rfl, rfl, _, rfl, ite2 (fun e1 => ?_) (fun e1 => ⟨[v], rfl, ⟨by simp, by simp, fun c hc => by rw [List.mem_singleton.mp hc]; exact okv⟩, fun _ => rfl, hN4, SM4, D4.mono (by omega)⟩)⟩
        have ew : way = 1 := by simpa using e1
        refine ⟨⟨_, rfl⟩, _, rfl, d, _, 8, rfl, D4, by omega, by decide, by decide, fun H5 r5 r50 r51 S5 D5 => ⟨_, _, rfl, rfl, 1 + r5, rfl, by omega, by omega, fun D nD => ?_⟩⟩
        have SM5 := SM4.trans S5
        have nDd : D ≠ d := D5.nd nD
        have D0 : H D = none := SmX.free SM5 nD nDd
        have hN5 : NamesAt H5 p fs := S5 p _ npd hN4
        have nDp : p ≠ D := ne_of_none hN5 nD
        refine lc_range (lo := 0) (n := (1 + r5).toNat) (fun i H' => ∃ cs : List Nat, cs.length = i ∧ (∀ c ∈ cs, 97 ≤ c ∧ c ≤ 122) ∧ H' D = some (.lst ((cs.map fun c => S [c]).map V.str)) ∧ NamesAt H' p fs ∧ SmX d H H' ∧ SeedAt H' d (n + 10 + 10 * t + 2 + i)) ⟨[], rfl, by simp, upd_same, by unfold NamesAt; rw [upd_ne nDp]; exact hN5, SM5.new nD, (D5.new nD).mono (by omega)⟩ (fun i H' hi hP => ?_) (fun H' hP => ?_)
        · obtain ⟨cs, hlc, hc, hD', hN', SM, DD⟩ := hP
          refine ⟨rfl, _, rfl, _, rfl, d, _, 26, rfl, DD, by omega, by decide, by decide, fun H4 r4 r40 r41 S4 D4 => ?_⟩
          obtain ⟨v, hv, mv⟩ := atI_in (xs := abc.cps.toList) r40 (by rw [abc_len]; exact r41)
          refine ⟨abc, r4, v, rfl, rfl, by decide, hv, ?_⟩
          refine ⟨_, S4 D _ nDd hD', by rw [List.length_map, List.length_map]; exact sz_lt (by omega), cs ++ [v], by simp [hlc], fun c hc' => ?_, ?_, ?_, (SM.trans S4).put D0, D4.put nDd⟩
          · rcases List.mem_append.mp hc' with z | z
            · exact hc c z
            · rw [List.mem_singleton.mp z]
              exact abc_ok v mv
          · rw [upd_same, List.map_append, List.map_append]
            rfl
          · unfold NamesAt
            rw [upd_ne nDp]
            exact S4 p _ npd hN'
        · obtain ⟨cs, hlc, hc, hD', hN', SM, DD⟩ := hP
          refine ⟨_, D, cs.map (fun c => S [c]), rfl, rfl, .inl (SqL.of hD'), ?_, ?_⟩
          · rw [one_sum']
            have : ((("" : Str)).length) = 0 := rfl
            rw [this, List.length_map]
            omega
          · have e : Txt.join ("" : Str) (cs.map fun c => S [c]) = S cs := by
              have := SX.join_S [] (cs.map fun c => [c])
              rw [List.map_map] at this
              rw [join_none, flat_one] at this
              exact this
            rw [e]
            exact ⟨cs, rfl, ⟨by omega, by omega, hc⟩, fun z => by omega, hN', SM, DD.mono (by omega)⟩
      obtain ⟨l, rfl, lok, l2, hN5, SM5, D5⟩ := hM
      -- amid the stem
      refine ⟨fun σ3 H3 => ∃ l : Nm, σ3 = [some (.ref d), some (.int many), some (.ref tk), some (.str abc), some (.int way), some (.str (S cs)), some (.int at'), some (.ref p), some (.int t), some (.str (S l)), none] ∧ NameOk l ∧ H3 = H'', ?_, fun σ3 H3 hM => ?_⟩
      · refine ⟨_, rfl, rfl, _, rfl, ite2 (fun e1 => ?_) (fun e1 => ⟨l, rfl, lok, rfl⟩)⟩
        have ew : way = 2 := by simpa using e1
        have l21 := l2 ew
        refine ⟨_, rfl, _, rfl, at', rfl, S cs, rfl, by rw [SX.S_len]; exact sz_le (by omega), ?_⟩
        refine ⟨_, rfl, S (cs.take at'.toNat), S l, congrArg V.str (SX.slice_to a0), rfl, by rw [SX.S_len, SX.S_len, List.length_take]; exact sz_le (by omega), ?_⟩
        refine ⟨_, rfl, _, rfl, at', 1, rfl, rfl, at' + 1, rfl, S cs, rfl, by rw [SX.S_len]; exact sz_le (by omega), S (cs.take at'.toNat ++ l), S (cs.drop (at' + 1).toNat), congrArg V.str (SX.S_cat _ _), congrArg V.str (SX.slice_from (by omega)), by rw [SX.S_len, SX.S_len, List.length_append, List.length_take, List.length_drop]; exact sz_le (by omega), ?_⟩
        refine ⟨cs.take at'.toNat ++ l ++ cs.drop (at' + 1).toNat, by rw [SX.S_cat]; rfl, ⟨?_, ?_, fun c hc' => ?_⟩, rfl⟩
        · simp
          omega
        · simp
          omega
        · rcases List.mem_append.mp hc' with z | z
          · rcases List.mem_append.mp z with z | z
            · exact hc c (List.mem_of_mem_take z)
            · exact lok.2.2 c z
          · exact hc c (List.mem_of_mem_drop z)
      obtain ⟨l, rfl, lok, rfl⟩ := hM
      have hT5 : TakenAt H3 tk tks := hT.mv SM5 ntd
      -- made otherwise
      refine ⟨fun σ4 H4 => ∃ l : Nm, σ4 = [some (.ref d), some (.int many), some (.ref tk), some (.str abc), some (.int way), some (.str (S cs)), some (.int at'), some (.ref p), some (.int t), some (.str (S l)), none] ∧ NameOk l ∧ ((l ∉ fs ∧ l ∉ tks) ∨ l.take 2 = pre t) ∧ H4 = H3, ?_, fun σ4 H4 hM => ?_⟩
      · have ok2 : NameOk (pre t ++ l.take 6) := by
          refine ⟨by simp [pre], ?_, fun c hc' => ?_⟩
          · rw [List.length_append, List.length_take]
            show 2 + _ ≤ 8
            omega
          · rcases List.mem_append.mp hc' with z | z
            · unfold pre at z
              simp at z
              omega
            · exact lok.2.2 c (List.mem_of_mem_take z)
        have et : (t : Int) / 26 % 26 = (((t / 26 % 26 : Nat)) : Int) := by omega
        have em' : (t : Int) % 26 = (((t % 26 : Nat)) : Int) := by omega
        have b1 : atI abc.cps.toList ((t : Int) / 26 % 26) = some (97 + t / 26 % 26) := by
          rw [et]
          exact abc_at ⟨t / 26 % 26, by omega⟩
        have b2 : atI abc.cps.toList ((t : Int) % 26) = some (97 + t % 26) := by
          rw [em']
          exact abc_at ⟨t % 26, by omega⟩
        refine ⟨_, rfl, _, rfl, p, _, rfl, .inl (SqL.of hN5), rfl, flat_strs fs, _, rfl, ?_⟩
        rw [inV_strs]
        by_cases c1 : l ∈ fs
        · rw [decide_eq_true c1]
          refine iteT (iteT ?_)
          refine ⟨_, rfl, _, rfl, _, _, rfl, rfl, (by show (0 : Int) < _; decide), abc, (t : Int) % 26, _, rfl, rfl, by decide, b2, ?_⟩
          refine ⟨_, rfl, _, rfl, _, _, rfl, rfl, ⟨by decide, by decide⟩, _, _, rfl, rfl, (by show (0 : Int) < _; decide), abc, (t : Int) / 26 % 26, _, rfl, rfl, by decide, b1, ?_⟩
          refine ⟨S [97 + t % 26], S [97 + t / 26 % 26], rfl, rfl, by rw [SX.S_len, SX.S_len]; exact sz_le (by simp), ?_⟩
          refine ⟨_, rfl, 6, rfl, S l, rfl, by rw [SX.S_len]; exact sz_le (by have := lok.2.1; omega), ?_⟩
          refine ⟨S (pre t), S (l.take 6), congrArg V.str (SX.S_cat _ _), congrArg V.str (SX.slice_to (by decide)), by rw [SX.S_len, SX.S_len, List.length_take]; exact sz_le (by simp [pre]; omega), ?_⟩
          exact ⟨pre t ++ l.take 6, by rw [SX.S_cat]; rfl, ok2, .inr (by simp [pre]), rfl⟩
        · rw [decide_eq_false c1]
          refine iteF ?_
          refine ⟨_, rfl, _, rfl, tk, _, rfl, hT5.sq, rfl, flat_strs tks, _, rfl, ?_⟩
          rw [inV_strs]
          by_cases c2 : l ∈ tks
          · rw [decide_eq_true c2]
            refine iteT ?_
            refine ⟨_, rfl, _, rfl, _, _, rfl, rfl, (by show (0 : Int) < _; decide), abc, (t : Int) % 26, _, rfl, rfl, by decide, b2, ?_⟩
            refine ⟨_, rfl, _, rfl, _, _, rfl, rfl, ⟨by decide, by decide⟩, _, _, rfl, rfl, (by show (0 : Int) < _; decide), abc, (t : Int) / 26 % 26, _, rfl, rfl, by decide, b1, ?_⟩
            refine ⟨S [97 + t % 26], S [97 + t / 26 % 26], rfl, rfl, by rw [SX.S_len, SX.S_len]; exact sz_le (by simp), ?_⟩
            refine ⟨_, rfl, 6, rfl, S l, rfl, by rw [SX.S_len]; exact sz_le (by have := lok.2.1; omega), ?_⟩
            refine ⟨S (pre t), S (l.take 6), congrArg V.str (SX.S_cat _ _), congrArg V.str (SX.slice_to (by decide)), by rw [SX.S_len, SX.S_len, List.length_take]; exact sz_le (by simp [pre]; omega), ?_⟩
            exact ⟨pre t ++ l.take 6, by rw [SX.S_cat]; rfl, ok2, .inr (by simp [pre]), rfl⟩
          · rw [decide_eq_false c2]
            exact iteF ⟨l, rfl, lok, .inl ⟨c1, c2⟩, rfl⟩
      obtain ⟨l, rfl, lok, lc, rfl⟩ := hM
      -- put behind
      refine ⟨fun σ5 H5 => ∃ (fs' : List Nm) (js' : List Nat), σ5 = [some (.ref d), some (.int many), some (.ref tk), some (.str abc), some (.int way), some (.str (S cs)), some (.int at'), some (.ref p), some (.int t), some (.str (S l)), none] ∧ Fnd fs' tks (t + 1) js' ∧ fs'.length ≤ many ∧ NamesAt H5 p fs' ∧ SmX d H H5 ∧ SeedAt H5 d (n + 10 + 10 * (t + 1)), ?_, fun σ5 H5 hM => ?_⟩
      · refine ⟨_, rfl, _, rfl, p, _, rfl, .inl (SqL.of hN5), rfl, flat_strs fs, _, rfl, ?_⟩
        rw [inV_strs]
        by_cases c1 : l ∈ fs
        · rw [decide_eq_true c1]
          refine iteF (iteF ?_)
          have lc : l.take 2 = pre t := lc.resolve_left fun z => z.1 c1
          exact ⟨fs, js ++ [t], rfl, hF.miss lc (.inl c1), lf, hN5, SM5, D5.mono (by omega)⟩
        · rw [decide_eq_false c1]
          refine iteT ?_
          refine ⟨_, rfl, _, rfl, tk, _, rfl, hT5.sq, rfl, flat_strs tks, _, rfl, ?_⟩
          rw [inV_strs]
          by_cases c2 : l ∈ tks
          · rw [decide_eq_true c2]
            refine iteF ?_
            have lc : l.take 2 = pre t := lc.resolve_left fun z => z.2 c2
            exact ⟨fs, js ++ [t], rfl, hF.miss lc (.inr c2), lf, hN5, SM5, D5.mono (by omega)⟩
          · rw [decide_eq_false c2]
            refine iteT ?_
            refine ⟨_, rfl, .inl ⟨rfl, _, SqL.of hN5⟩, _, rfl, p, _, _, rfl, rfl, hN5, by rw [List.length_map, List.length_map]; exact sz_lt (by omega), ?_⟩
            refine ⟨fs ++ [l], js, rfl, hF.hit lok c1 c2, by rw [List.length_append, List.length_singleton]; omega, ?_, SM5.put np0, (D5.put npd).mono (by omega)⟩
            unfold NamesAt
            rw [upd_same, List.map_append, List.map_append]
            rfl
      obtain ⟨fs', js', rfl, h1, h2, h3, h4, h5⟩ := hM
      exact ⟨_, rfl, _, _, rfl, rfl, fs', js', _, rfl, h1, h2, h3, h4, h5⟩
    · obtain ⟨fs, t, x8, x9, rfl, ⟨js, hF⟩, t1, lf, hN, SM', D'⟩ := hM
      exact ⟨_, rfl, q _ p fs lf hF.nd hF.ok hF.un np0 npd hN SM' (D'.mono (by omega))⟩
end
end Far

namespace Far
open PySem PySem.Spec PyProof.Rows L2
open C8 (pss_cut tCut)
open SX (S)
theorem SeedAt.tk {H H' : Hp} {d : Addr} {n : Nat} (h : SeedAt H d n) (s : SmX d H H') : TK H H' := by
  obtain ⟨xs, e⟩ := h.lst
  exact s.tk e
theorem seq_ix {r : Int} {n : Nat} (h0 : 0 ≤ r) (h1 : r < n) : seqIndex? r n = some r.toNat := by
  refine (ixN_seq (j := r.toNat) ?_).1
  unfold ixN
  rw [if_pos h0, if_pos h1]
/-- within the making of a tree: the names at p, the ties so far at t -/
structure Tr (H H' : Hp) (d p t : Addr) (n : Nat) (ls : List Nm) (tvs : List V) (ts : List Tie) : Prop where
  nm : NamesAt H' p ls
  tt : H' t = some (.lst tvs)
  al : DtAll H' tvs (ts.map tieD)
  sm : SmX d H H'
  dk : SeedAt H' d n
theorem Tr.new {H H' : Hp} {d p t q : Addr} {n : Nat} {ls : List Nm} {tvs : List V} {ts : List Tie} {o : HO} (x : Tr H H' d p t n ls tvs ts) (nq : H' q = none) : Tr H (upd H' q o) d p t n ls tvs ts :=
  ⟨by unfold NamesAt; rw [upd_ne (ne_of_none x.nm nq)]; exact x.nm, by rw [upd_ne (ne_of_none x.tt nq)]; exact x.tt, DtAll.keep (TK.new nq) x.al, x.sm.new nq, x.dk.new nq⟩
theorem Tr.step {H H' H'' : Hp} {d p t : Addr} {n m : Nat} {ls : List Nm} {tvs : List V} {ts : List Tie} (x : Tr H H' d p t n ls tvs ts) (npd : p ≠ d) (ntd : t ≠ d) (s : SmX d H' H'') (D : SeedAt H'' d m) : Tr H H'' d p t m ls tvs ts :=
  ⟨s p _ npd x.nm, s t _ ntd x.tt, DtAll.keep (x.dk.tk s) x.al, x.sm.trans s, D⟩
theorem Tr.put {H H' : Hp} {d p t q : Addr} {n : Nat} {ls : List Nm} {tvs xs : List V} {ts : List Tie} {o : HO} (x : Tr H H' d p t n ls tvs ts) (np : q ≠ p) (nt : q ≠ t) (nd : q ≠ d) (n0 : H q = none) (hq : H' q = some (.lst xs)) : Tr H (upd H' q o) d p t n ls tvs ts :=
  ⟨by unfold NamesAt; rw [upd_ne np.symm]; exact x.nm, by rw [upd_ne nt.symm]; exact x.tt, DtAll.keep (TK.mut hq) x.al, x.sm.put n0, x.dk.put nd⟩
theorem Tr.take {H H' : Hp} {d p t : Addr} {n k : Nat} {ls : List Nm} {tvs : List V} {ts : List Tie} (x : Tr H H' d p t n ls tvs ts) (np : p ≠ t) (nd : t ≠ d) (n0 : H t = none) : Tr H (upd H' t (.lst (tvs.eraseIdx k))) d p t n ls (tvs.eraseIdx k) (ts.eraseIdx k) :=
  ⟨by unfold NamesAt; rw [upd_ne np]; exact x.nm, upd_same, by rw [← map_erase]; exact DtAll.del k (DtAll.keep (TK.mut x.tt) x.al), x.sm.put n0, x.dk.put nd⟩
theorem Tr.mono {H H' : Hp} {d p t : Addr} {n m : Nat} {ls : List Nm} {tvs : List V} {ts : List Tie} (x : Tr H H' d p t n ls tvs ts) (h : n ≤ m) : Tr H H' d p t m ls tvs ts := ⟨x.nm, x.tt, x.al, x.sm, x.dk.mono h⟩
abbrev s_law_tree : Stmt := topS 23
abbrev N_law_tree : List Str := ["deck", "most", "taken", "many", "shape", "far", "names", "ties", "k", "to", "pair", "left", "places"]
theorem sc_law_tree : FnScope N_law_tree ["deck", "most", "taken"] (defScope s_law_tree) := ⟨rfl, rfl, rfl, by decide +kernel, rfl, by decide +kernel, by decide +kernel⟩
section
variable {P : Program} {w : World} {K : PySem.W.Frag} {mg : Str → Option Value} {base : Heap}
def spTree : Sp := fun vs H Q _ => ∃ (d tk : Addr) (n most : Nat) (tks : List Nm), vs = [.ref d, .int most, .ref tk] ∧ SeedAt H d n ∧ n < 80000 ∧ 1 ≤ most ∧ most ≤ 30 ∧ tk ≠ d ∧ TakenAt H tk tks ∧ tks.length ≤ 40 ∧
  ∀ (H' : Hp) (t : Addr) (pl : List Nm) (ts : List Tie), IsTree pl ts → (∀ l ∈ pl, NameOk l) → (∀ l ∈ pl, l ∉ tks) → pl.length ≤ most → Dt H' (.ref t) (treeD pl ts) → SmX d H H' → SeedAt H' d (n + 1400) → Q (.ref t) H'
theorem ok_tree {f : Addr} {fd : FuncData} (F : Fun K "_law_tree" "_law_tree" s_law_tree f fd) (T : TxtG mg) (C_law_draw : Cal P w K mg base 1 "_law_draw" spDraw) (C_law_names : Cal P w K mg base 2 "_law_names" spNames) : FnOk P w K mg base CX0 3 f fd ["deck", "most", "taken"] spTree := by
  refine F.ok sc_law_tree (fun vs H Q E h => ?_) (fun cdv A outer s H vs Q E hr h => ?_)
  · obtain ⟨d, tk, n, most, tks, rfl, _⟩ := h
    rfl
  · obtain ⟨d, tk, n, most, tks, rfl, hD, hn, hm1, hm, ntd', hT, ltk, q⟩ := h
    have e6 : (10 : Int) ^ (6 : Int).toNat = 1000000 := by decide
    refine ⟨_, (pss_cons (ps_set (i := 3) sc_law_tree.nd rfl (.inl rfl) (pe_ix ix_list (pe_lst (pa_cons (pe_op op_add pe_int (pe_c C_law_draw hr (by decide) rfl (pa_cons (pv 0) (pa_cons (pv 1) pa_nil)))) (pa_cons (pv 1) (pa_cons (pe_op op_add pe_int (pe_c C_law_draw hr (by decide) rfl (pa_cons (pv 0) (pa_cons (pe_callB (call_min2 rfl) (by rfl) T.min bt_min (pa_cons (pv 1) (pa_cons pe_int pa_nil))) pa_nil)))) pa_nil)))) (pe_c C_law_draw hr (by decide) rfl (pa_cons (pv 0) (pa_cons pe_int pa_nil))) (fun _ _ => rfl)))
      (pss_cons (ps_set (i := 4) sc_law_tree.nd rfl (.inl rfl) (pe_c C_law_draw hr (by decide) rfl (pa_cons (pv 0) (pa_cons pe_int pa_nil))))
      (pss_cons (ps_set (i := 5) sc_law_tree.nd rfl (.inl rfl) (pe_ix ix_list (pe_lst (pa_cons pe_int (pa_cons pe_int (pa_cons pe_int (pa_cons (pe_op op_pow pe_int pe_int) pa_nil))))) (pe_c C_law_draw hr (by decide) rfl (pa_cons (pv 0) (pa_cons pe_int pa_nil))) (fun _ _ => rfl)))
      (pss_cons (ps_set (i := 6) sc_law_tree.nd rfl (.inl rfl) (pe_c C_law_names hr (by decide) rfl (pa_cons (pv 0) (pa_cons (pv 3) (pa_cons (pv 2) pa_nil)))))
      (pss_cons (ps_set (i := 7) sc_law_tree.nd rfl (.inr rfl) (pe_lst pa_nil))
      (pss_cut (ps_for PassesOwn.never rfl (pi_range2 (by rfl) T.range (pa_cons pe_int (pa_cons (pv 3) pa_nil))) (pg_name (i := 8) sc_law_tree.nd rfl (.inl rfl))
        (pss_cons (ps_set (i := 9) sc_law_tree.nd rfl (.inl rfl) (pe_ix ix_list (pe_lst (pa_cons (pe_c C_law_draw hr (by decide) rfl (pa_cons (pv 0) (pa_cons (pv 8) pa_nil))) (pa_cons (pe_op op_sub (pv 8) pe_int) (pa_cons pe_int (pa_cons (pe_callB (call_min2 rfl) (by rfl) T.min bt_min (pa_cons (pe_op op_sub (pv 8) pe_int) (pa_cons (pe_op op_fdiv (pv 8) pe_int) pa_nil))) (pa_cons (pe_callB (call_max2 rfl) (by rfl) T.max bt_max (pa_cons pe_int (pa_cons (pe_op op_sub (pv 8) pe_int) pa_nil))) pa_nil)))))) (pv 4) (fun _ _ => rfl)))
        (pss_cons (ps_set (i := 10) sc_law_tree.nd rfl (.inl rfl) (pe_lst (pa_cons (pe_ix ix_list (pv 6) (pv 9) (fun _ _ => rfl)) (pa_cons (pe_ix ix_list (pv 6) (pv 8) (fun _ _ => rfl)) pa_nil))))
        (pss_cut (ps_if (pt_cmpR op_eq (pe_c C_law_draw hr (by decide) rfl (pa_cons (pv 0) (pa_cons pe_int pa_nil))) pe_int (nomark _))
          (pss_one (ps_set (i := 10) sc_law_tree.nd rfl (.inl rfl) (pe_revL (pv 10))))
          pss_nil)
        (pss_one (ps_expr (pe_bm PySem.F.plainAttrs_list PySem.F.slot_list_append PySem.F.type_list_append mt_append (pv 7) (pa_cons (pe_tup (pa_cons (pe_ix ix_list (pv 10) pe_int (fun _ _ => rfl)) (pa_cons (pe_ix ix_list (pv 10) pe_int (fun _ _ => rfl)) (pa_cons (pe_op op_add pe_int (pe_c C_law_draw hr (by decide) rfl (pa_cons (pv 0) (pa_cons (pv 5) pa_nil)))) pa_nil)))) pa_nil))))))))
      (pss_cons (ps_set (i := 11) sc_law_tree.nd rfl (.inr rfl) (pe_callTy call_list_of (by rfl) T.list bt_list (pa_cons (pv 6) pa_nil)))
      (pss_cons (ps_set (i := 12) sc_law_tree.nd rfl (.inl rfl) (pe_tupleOf (by rfl) T.tuple (pe_lc (own := [("k", 8)]) (g := gName 8) (tt := tYes) rfl sc_law_tree.nd (pi_range1 (by rfl) T.range (pa_cons (pv 3) pa_nil)) (blkOk_by (N := N_law_tree) (sc := defScope s_law_tree) (by decide +kernel)) (fun _ _ _ _ _ => pg_name (i := 8) sc_law_tree.nd rfl (Or.inl rfl)) (fun _ _ _ _ _ => pts_nil) (fun _ _ _ _ _ => (show PE _ _ (tBM K "list" rPopAt _ _) from pe_bm PySem.F.plainAttrs_list PySem.F.slot_list_pop PySem.F.type_list_pop mt_popAt (pv 11) (pa_cons (pe_c C_law_draw hr (by decide) rfl (pa_cons (pv 0) (pa_cons (pe_callB (lenK (K := K)) (by rfl) T.len bt_len (pa_cons (pv 11) pa_nil)) pa_nil))) pa_nil))))))
      (pss_one (ps_ret (pe_tup (pa_cons (pv 12) (pa_cons (pe_tupleOf (by rfl) T.tuple (pe_lc (own := [("k", 8)]) (g := gName 8) (tt := tYes) rfl sc_law_tree.nd (pi_range1 (by rfl) T.range (pa_cons (pe_op op_sub (pv 3) pe_int) pa_nil)) (blkOk_by (N := N_law_tree) (sc := defScope s_law_tree) (by decide +kernel)) (fun _ _ _ _ _ => pg_name (i := 8) sc_law_tree.nd rfl (Or.inl rfl)) (fun _ _ _ _ _ => pts_nil) (fun _ _ _ _ _ => (show PE _ _ (tBM K "list" rPopAt _ _) from pe_bm PySem.F.plainAttrs_list PySem.F.slot_list_pop PySem.F.type_list_pop mt_popAt (pv 7) (pa_cons (pe_c C_law_draw hr (by decide) rfl (pa_cons (pv 0) (pa_cons (pe_callB (lenK (K := K)) (by rfl) T.len bt_len (pa_cons (pv 7) pa_nil)) pa_nil))) pa_nil))))) pa_nil))))))))))))), ?_⟩
    -- many
    refine ⟨_, rfl, _, rfl, d, _, most, rfl, hD, by omega, by omega, by omega, fun H1 r1 r10 r11 S1 D1 => ⟨_, _, rfl, rfl, ?_⟩⟩
    refine ⟨_, rfl, _, rfl, _, rfl, _, _, rfl, d, _, _, rfl, D1, by omega, by split <;> omega, by split <;> omega, fun H2 r2 r20 r21 S2 D2 => ⟨_, _, rfl, rfl, ?_⟩⟩
    have r22 : r2 < most := by split at r21 <;> omega
    refine ⟨(by show 3 ≤ sizeLine; decide), fun p1 np1 => ?_⟩
    refine ⟨_, rfl, d, _, 3, rfl, D2.new np1, by omega, by decide, by decide, fun H3 r3 r30 r31 S3 D3 => ?_⟩
    have hp1 := S3 p1 _ (D2.nd np1) upd_same
    have SM3 : SmX d H H3 := ((S1.trans S2).new np1).trans S3
    obtain ⟨v, hv, mv⟩ := atI_in (xs := [V.int (1 + r1), .int most, .int (1 + r2)]) r30 (by simpa using r31)
    have hs : ∃ m : Nat, v = .int m ∧ 1 ≤ m ∧ m ≤ most := by
      simp only [List.mem_cons, List.not_mem_nil, or_false] at mv
      rcases mv with e | e | e
      · exact ⟨(1 + r1).toNat, by rw [e]; congr 1 <;> omega, by omega, by omega⟩
      · exact ⟨most, e, by omega, by omega⟩
      · exact ⟨(1 + r2).toNat, by rw [e]; congr 1 <;> omega, by omega, by omega⟩
    obtain ⟨many, rfl, m1, mm⟩ := hs
    refine ⟨p1, _, r3, _, rfl, rfl, SqL.of hp1, hv, ?_⟩
    -- shape, far
    refine ⟨_, rfl, d, _, 5, rfl, D3, by omega, by decide, by decide, fun H4 shape w0 w1 S4 D4 => ?_⟩
    refine ⟨_, _, rfl, rfl, ⟨by decide, by decide, by decide⟩, (by show 4 ≤ sizeLine; decide), fun p2 np2 => ?_⟩
    refine ⟨_, rfl, d, _, 4, rfl, D4.new np2, by omega, by decide, by decide, fun H5 r5 r50 r51 S5 D5 => ?_⟩
    have hp2 := S5 p2 _ (D4.nd np2) upd_same
    have SM5 : SmX d H H5 := ((SM3.trans S4).new np2).trans S5
    obtain ⟨v, hv, mv⟩ := atI_in (xs := [V.int 1, .int 2, .int 9, .int (10 ^ (6 : Int).toNat)]) r50 (by simpa using r51)
    have hs : ∃ m : Int, v = .int m ∧ 1 ≤ m ∧ m ≤ 1000000 := by
      rw [e6] at mv
      simp only [List.mem_cons, List.not_mem_nil, or_false] at mv
      rcases mv with e | e | e | e
      · exact ⟨1, e, by omega, by omega⟩
      · exact ⟨2, e, by omega, by omega⟩
      · exact ⟨9, e, by omega, by omega⟩
      · exact ⟨1000000, e, by omega, by omega⟩
    obtain ⟨far, rfl, f1, f2⟩ := hs
    refine ⟨p2, _, r5, _, rfl, rfl, SqL.of hp2, hv, ?_⟩
    have hT5 := hT.mv SM5 ntd'
    -- names
    refine ⟨_, rfl, _, rfl, _, rfl, d, tk, _, many, tks, rfl, D5, by omega, m1, by omega, ntd', hT5, ltk, fun H6 p ls hl nd ok un np5 npd hN6 S6 D6 => ?_⟩
    have SM6 : SmX d H H6 := SM5.trans S6
    have np0 : H p = none := SM5.free np5 npd
    -- ties
    refine ⟨Nat.zero_le _, fun t nt => ?_⟩
    have ntd : t ≠ d := D6.nd nt
    have ntp : p ≠ t := ne_of_none hN6 nt
    have nt0 : H t = none := SM6.free nt ntd
    refine ⟨fun σ' H' => ∃ (x8 x9 x10 : Option V) (tvs : List V) (ts : List Tie), σ' = [some (.ref d), some (.int most), some (.ref tk), some (.int many), some (.int shape), some (.int far), some (.ref p), some (.ref t), x8, x9, x10, none, none] ∧ Grown ls ts ∧ Tr H H' d p t (n + 1250) ls tvs ts, ?_, fun σ' H' hM => ?_⟩
    · refine ⟨_, rfl, 1, many, rfl, ⟨by decide, by decide, by omega, by omega⟩, ?_⟩
      refine for_range (lo := 1) (n := ((many : Int) - 1).toNat) (fun i σ' H' => ∃ (x8 x9 x10 : Option V) (tvs : List V) (ts : List Tie), σ' = [some (.ref d), some (.int most), some (.ref tk), some (.int many), some (.int shape), some (.int far), some (.ref p), some (.ref t), x8, x9, x10, none, none] ∧ Grown (ls.take (i + 1)) ts ∧ Tr H H' d p t (n + 1110 + 3 * i) ls tvs ts) ⟨none, none, none, [], [], rfl, ?_, ?_, upd_same, .nil, SM6.new nt, (D6.new nt).mono (by omega)⟩ (fun i σ' H' hi hP => ?_) (fun σ' H' hP => ?_)
      · cases ls with
        | nil => simp at hl; omega
        | cons a r => exact Grown.one a
      · unfold NamesAt
        rw [upd_ne ntp]
        exact hN6
      · obtain ⟨x8, x9, x10, tvs, ts, rfl, hG, X0⟩ := hP
        have hi' : i + 1 < many := by omega
        -- to
        refine ⟨_, rfl, _, rfl, d, _, _, rfl, X0.dk, by omega, by omega, by omega, fun H7 a a0 a1 S7 D7 => ?_⟩
        have X7 := X0.step npd ntd S7 D7
        refine ⟨_, rfl, _, _, rfl, rfl, _, rfl, _, _, rfl, rfl, _, rfl, _, _, rfl, rfl, ⟨by decide, by decide⟩, _, _, rfl, _, rfl, _, _, rfl, rfl, _, _, rfl, (by show 5 ≤ sizeLine; decide), fun p8 np8 => ?_⟩
        have X8 := X7.new (o := .lst [V.int a, .int (1 + (i : Int) - 1), .int 0, .int (if (1 + (i : Int)) / 2 < 1 + (i : Int) - 1 then (1 + (i : Int)) / 2 else 1 + (i : Int) - 1), .int (if 1 + (i : Int) - 3 > 0 then 1 + (i : Int) - 3 else 0)]) np8
        obtain ⟨v, hv, mv⟩ := atI_in (xs := [V.int a, .int (1 + (i : Int) - 1), .int 0, .int (if (1 + (i : Int)) / 2 < 1 + (i : Int) - 1 then (1 + (i : Int)) / 2 else 1 + (i : Int) - 1), .int (if 1 + (i : Int) - 3 > 0 then 1 + (i : Int) - 3 else 0)]) w0 (by simpa using w1)
        have hs : ∃ m : Nat, v = .int m ∧ m < i + 1 := by
          simp only [List.mem_cons, List.not_mem_nil, or_false] at mv
          rcases mv with e | e | e | e | e
          · exact ⟨a.toNat, by rw [e]; congr 1 <;> omega, by omega⟩
          · exact ⟨i, by rw [e]; congr 1 <;> omega, by omega⟩
          · exact ⟨0, e, by omega⟩
          · by_cases z : (1 + (i : Int)) / 2 < 1 + (i : Int) - 1
            · rw [if_pos z] at e
              exact ⟨(1 + i) / 2, by rw [e]; congr 1 <;> omega, by omega⟩
            · rw [if_neg z] at e
              exact ⟨i, by rw [e]; congr 1 <;> omega, by omega⟩
          · by_cases z : 1 + (i : Int) - 3 > 0
            · rw [if_pos z] at e
              exact ⟨i - 2, by rw [e]; congr 1 <;> omega, by omega⟩
            · rw [if_neg z] at e
              exact ⟨0, e, by omega⟩
        obtain ⟨at', rfl, hat⟩ := hs
        refine ⟨_, rfl, p8, _, shape, _, rfl, rfl, SqL.of upd_same, hv, ?_⟩
        -- pair
        have la : at' < ls.length := by omega
        have lk : i + 1 < ls.length := by omega
        have ga : ((ls.map S).map V.str)[at']? = some (.str (S ls[at'])) := by
          rw [List.getElem?_map, List.getElem?_map, List.getElem?_eq_getElem la]
          rfl
        have gk : ((ls.map S).map V.str)[i + 1]? = some (.str (S ls[i + 1])) := by
          rw [List.getElem?_map, List.getElem?_map, List.getElem?_eq_getElem lk]
          rfl
        have ek : 1 + (i : Int) = ((i + 1 : Nat) : Int) := by omega
        refine ⟨_, rfl, _, rfl, p, _, at', _, rfl, rfl, SqL.of X8.nm, atI_nat ga, _, rfl, _, rfl, p, _, 1 + (i : Int), _, rfl, rfl, SqL.of X8.nm, by rw [ek]; exact atI_nat gk, (by show 2 ≤ sizeLine; decide), fun e1 ne1 => ?_⟩
        have X9 := X8.new (o := .lst [.str (S ls[at']), .str (S ls[i + 1])]) ne1
        have he1 : (upd (upd H7 p8 (.lst [V.int a, .int (1 + (i : Int) - 1), .int 0, .int (if (1 + (i : Int)) / 2 < 1 + (i : Int) - 1 then (1 + (i : Int)) / 2 else 1 + (i : Int) - 1), .int (if 1 + (i : Int) - 3 > 0 then 1 + (i : Int) - 3 else 0)])) e1 (.lst [.str (S ls[at']), .str (S ls[i + 1])])) e1 = some (.lst [.str (S ls[at']), .str (S ls[i + 1])]) := upd_same
        generalize upd (upd H7 p8 (.lst [V.int a, .int (1 + (i : Int) - 1), .int 0, .int (if (1 + (i : Int)) / 2 < 1 + (i : Int) - 1 then (1 + (i : Int)) / 2 else 1 + (i : Int) - 1), .int (if 1 + (i : Int) - 3 > 0 then 1 + (i : Int) - 3 else 0)])) e1 (.lst [.str (S ls[at']), .str (S ls[i + 1])]) = H9 at X9 he1
        have ed1 : e1 ≠ d := X8.dk.nd ne1
        refine ⟨fun σ'' H'' => ∃ (e : Addr) (xa xb : Nm), σ'' = [some (.ref d), some (.int most), some (.ref tk), some (.int many), some (.int shape), some (.int far), some (.ref p), some (.ref t), some (.int (1 + (i : Int))), some (.int at'), some (.ref e), none, none] ∧ H'' e = some (.lst [.str (S xa), .str (S xb)]) ∧ e ≠ d ∧ ((xa = ls[at'] ∧ xb = ls[i + 1]) ∨ (xa = ls[i + 1] ∧ xb = ls[at'])) ∧ Tr H H'' d p t (n + 1110 + 3 * i + 2) ls tvs ts, ?_, fun σ'' H'' hM => ?_⟩
        · refine ⟨_, rfl, d, _, 2, rfl, X9.dk, by omega, by decide, by decide, fun H10 b b0 b1 S10 D10 => ?_⟩
          have X10 := X9.step npd ntd S10 D10
          have he10 := S10 e1 _ ed1 he1
          refine ⟨rfl, _, rfl, ite2 (fun e => ?_) (fun e => ?_)⟩
          · refine ⟨_, rfl, e1, _, rfl, SqL.of he10, fun e2 ne2 => ?_⟩
            exact ⟨e2, ls[i + 1], ls[at'], rfl, upd_same, X10.dk.nd ne2, .inr ⟨rfl, rfl⟩, X10.new ne2⟩
          · exact ⟨e1, ls[at'], ls[i + 1], rfl, he10, ed1, .inl ⟨rfl, rfl⟩, X10⟩
        obtain ⟨e, xa, xb, rfl, he, ed, hab, X10⟩ := hM
        -- ties.append
        refine ⟨_, rfl, .inl ⟨rfl, _, SqL.of X10.tt⟩, _, rfl, e, _, 0, _, rfl, rfl, SqL.of he, rfl, _, rfl, e, _, 1, _, rfl, rfl, SqL.of he, rfl, ?_⟩
        refine ⟨_, rfl, _, rfl, d, _, far, rfl, X10.dk, by omega, by omega, by omega, fun H11 lg l0 l1 S11 D11 => ⟨_, _, rfl, rfl, ?_⟩⟩
        have X11 := X10.step npd ntd S11 D11
        refine ⟨(by show 3 ≤ sizeLine; decide), fun e4 ne4 => ?_⟩
        have X12 := X11.new (o := .tup [.str (S xa), .str (S xb), .int (1 + lg)]) ne4
        have tl : tvs.length = ts.length := by
          have := DtAll.len X12.al
          rwa [List.length_map] at this
        have gl := hG.len
        rw [List.length_take] at gl
        refine ⟨t, tvs, _, rfl, rfl, X12.tt, sz_lt (by omega), ?_⟩
        have tk' : TK (upd H11 e4 (.tup [.str (S xa), .str (S xb), .int (1 + lg)])) (upd (upd H11 e4 (.tup [.str (S xa), .str (S xb), .int (1 + lg)])) t (.lst (tvs ++ [.ref e4]))) := TK.mut X12.tt
        refine ⟨_, _, _, tvs ++ [.ref e4], ts ++ [(xa, xb, 1 + lg)], rfl, ?_, ?_, upd_same, ?_, X12.sm.put nt0, (X12.dk.put ntd).mono (by omega)⟩
        · have e5 : ls.take (i + 1 + 1) = ls.take (i + 1) ++ [ls[i + 1]] := by
            rw [List.take_add_one, List.getElem?_eq_getElem lk]
            rfl
          rw [e5]
          refine Grown.leaf (a := ls[at']) (k := 1 + lg) hG ?_ ?_ ?_ (by omega) (by omega)
          · exact List.mem_take_iff_getElem.mpr ⟨at', by omega, rfl⟩
          · intro hm
            obtain ⟨j, hj, ej⟩ := List.mem_take_iff_getElem.mp hm
            have := (List.getElem_inj nd).mp ej
            omega
          · rcases hab with ⟨z1, z2⟩ | ⟨z1, z2⟩ <;> rw [z1, z2]
            · exact .inl rfl
            · exact .inr rfl
        · unfold NamesAt
          rw [upd_ne ntp]
          exact X12.nm
        · rw [List.map_append]
          exact DtAll.app (DtAll.keep tk' X12.al) (.cons (.tup (tk'.tup _ _ upd_same) (.cons (.str _) (.cons (.str _) (.cons (.int _) .nil)))) .nil)
      · obtain ⟨x8, x9, x10, tvs, ts, rfl, hG, X0⟩ := hP
        refine ⟨_, _, _, tvs, ts, rfl, ?_, X0.mono (by omega)⟩
        rwa [List.take_of_length_le (by omega)] at hG
    · obtain ⟨x8, x9, x10, tvs, ts, rfl, hG, X0⟩ := hM
      -- left
      refine ⟨_, rfl, p, _, rfl, .inl (SqL.of X0.nm), fun lf nlf => ?_⟩
      have X1 := X0.new (o := .lst ((ls.map S).map V.str)) nlf
      have lfd := X0.dk.nd nlf
      have lf0 : H lf = none := X0.sm.free nlf lfd
      have lfp : lf ≠ p := (ne_of_none X0.nm nlf).symm
      have lft : lf ≠ t := (ne_of_none X0.tt nlf).symm
      -- places
      refine ⟨_, rfl, (many : Int), rfl, by omega, by omega, fun D nD => ?_⟩
      have Dd := X1.dk.nd nD
      have D0 : H D = none := X1.sm.free nD Dd
      have Dp' : D ≠ p := (ne_of_none X1.nm nD).symm
      have DNt : D ≠ t := (ne_of_none X1.tt nD).symm
      have Dlf : D ≠ lf := (ne_of_none upd_same nD).symm
      refine lc_range (lo := 0) (n := (many : Int).toNat) (fun i H'' => ∃ l1 l2 : List Nm, l1.length = i ∧ (l1 ++ l2).Perm ls ∧ H'' D = some (.lst ((l1.map S).map V.str)) ∧ H'' lf = some (.lst ((l2.map S).map V.str)) ∧ Tr H H'' d p t (n + 1250 + i) ls tvs ts)
        ⟨[], ls, rfl, List.Perm.refl _, upd_same, by rw [upd_ne Dlf.symm]; exact upd_same, X1.new nD⟩ (fun i H'' hi hP => ?_) (fun H'' hP => ?_)
      · obtain ⟨l1, l2, hl1, pm, hD, hlf, X2⟩ := hP
        have ll := pm.length_eq
        rw [List.length_append] at ll
        refine ⟨rfl, _, rfl, .inl ⟨rfl, _, SqL.of hlf⟩, _, rfl, _, rfl, .ref lf, _, rfl, .inl ⟨_, SqL.of hlf, rfl⟩, d, _, _, rfl, X2.dk, by omega, by rw [List.length_map, List.length_map]; omega, by rw [List.length_map, List.length_map]; omega, fun H3 r r0 r1 S3 D3 => ?_⟩
        have X3 := X2.step npd ntd S3 D3
        have hD3 := S3 D _ Dd hD
        have hlf3 := S3 lf _ lfd hlf
        rw [List.length_map, List.length_map] at r1
        have hx : l2[r.toNat]? = some (l2[r.toNat]'(by omega)) := List.getElem?_eq_getElem (by omega)
        generalize l2[r.toNat]'(by omega) = x at hx
        have hx' : ((l2.map S).map V.str)[r.toNat]? = some (.str (S x)) := by
          rw [List.getElem?_map, List.getElem?_map, hx]
          rfl
        refine ⟨lf, _, r, r.toNat, .str (S x), rfl, rfl, hlf3, by omega, by omega, seq_ix r0 (by rw [List.length_map, List.length_map]; exact r1), hx', ?_⟩
        have X4 := X3.put (o := .lst (((l2.map S).map V.str).eraseIdx r.toNat)) lfp lft lfd lf0 hlf3
        have hD4 : (upd H3 lf (.lst (((l2.map S).map V.str).eraseIdx r.toNat))) D = some (.lst ((l1.map S).map V.str)) := by
          rw [upd_ne Dlf]
          exact hD3
        refine ⟨_, hD4, by rw [List.length_map, List.length_map]; exact sz_lt (by omega), l1 ++ [x], l2.eraseIdx r.toNat, by rw [List.length_append, hl1]; rfl, perm_pick pm hx, ?_, ?_, X4.put Dp' DNt Dd D0 hD4⟩
        · rw [upd_same, List.map_append, List.map_append]
          rfl
        · rw [upd_ne Dlf.symm, upd_same, map_erase, map_erase]
      · obtain ⟨l1, l2, hl1, pm, hD, hlf, X2⟩ := hP
        have ll := pm.length_eq
        rw [List.length_append] at ll
        have e2 : l2 = [] := List.length_eq_zero_iff.mp (by omega)
        subst e2
        rw [List.append_nil] at pm
        have gl := hG.len
        refine .inl ⟨D, _, rfl, SqL.of hD, fun q1 nq1 => ?_⟩
        have X2' := (X2.new (o := .tup ((l1.map S).map V.str)) nq1).mono (m := n + 1280) (by omega)
        have hq1 : (upd H'' q1 (.tup ((l1.map S).map V.str))) q1 = some (.tup ((l1.map S).map V.str)) := upd_same
        generalize upd H'' q1 (.tup ((l1.map S).map V.str)) = H20 at X2' hq1
        have q1d : q1 ≠ d := X2.dk.nd nq1
        -- mixed
        refine ⟨_, rfl, _, rfl, _, _, rfl, rfl, (many : Int) - 1, rfl, by omega, by omega, fun G nG => ?_⟩
        have Gd := X2'.dk.nd nG
        have G0 : H G = none := X2'.sm.free nG Gd
        have Gp : G ≠ p := (ne_of_none X2'.nm nG).symm
        have Gt : G ≠ t := (ne_of_none X2'.tt nG).symm
        have Gq : G ≠ q1 := (ne_of_none hq1 nG).symm
        have tq : t ≠ q1 := ne_of X2'.tt hq1 (by intro z; cases z)
        refine lc_range (lo := 0) (n := ((many : Int) - 1).toNat) (fun i H'' => ∃ (ts1 ts2 : List Tie) (vs1 vs2 : List V), ts1.length = i ∧ (ts1 ++ ts2).Perm ts ∧ H'' q1 = some (.tup ((l1.map S).map V.str)) ∧ H'' G = some (.lst vs1) ∧ DtAll H'' vs1 (ts1.map tieD) ∧ Tr H H'' d p t (n + 1280 + i) ls vs2 ts2)
          ⟨[], ts, [], tvs, rfl, List.Perm.refl _, by rw [upd_ne Gq.symm]; exact hq1, upd_same, .nil, X2'.new nG⟩ (fun i H3 hi hP => ?_) (fun H3 hP => ?_)
        · obtain ⟨ts1, ts2, vs1, vs2, hl1', pm', hD3, hG3, hA3, X3⟩ := hP
          have ll' := pm'.length_eq
          rw [List.length_append] at ll'
          have v2 : vs2.length = ts2.length := by
            have := DtAll.len X3.al
            rwa [List.length_map] at this
          have v1 : vs1.length = ts1.length := by
            have := DtAll.len hA3
            rwa [List.length_map] at this
          refine ⟨rfl, _, rfl, .inl ⟨rfl, _, SqL.of X3.tt⟩, _, rfl, _, rfl, .ref t, _, rfl, .inl ⟨_, SqL.of X3.tt, rfl⟩, d, _, _, rfl, X3.dk, by omega, by omega, by omega, fun H4 r r0 r1 S4 D4 => ?_⟩
          have X4 := X3.step npd ntd S4 D4
          have hD4 := S4 q1 _ q1d hD3
          have hG4 := S4 G _ Gd hG3
          have hA4 := DtAll.keep (X3.dk.tk S4) hA3
          have hy : vs2[r.toNat]? = some (vs2[r.toNat]'(by omega)) := List.getElem?_eq_getElem (by omega)
          generalize vs2[r.toNat]'(by omega) = y at hy
          obtain ⟨dy, hdy, hDy⟩ := DtAll.get X4.al hy
          have hx : ts2[r.toNat]? = some (ts2[r.toNat]'(by omega)) := List.getElem?_eq_getElem (by omega)
          generalize ts2[r.toNat]'(by omega) = x at hx
          have edy : dy = tieD x := by
            rw [List.getElem?_map, hx] at hdy
            exact (Option.some.inj hdy).symm
          subst edy
          refine ⟨t, _, r, r.toNat, y, rfl, rfl, X4.tt, by omega, by omega, seq_ix r0 r1, hy, ?_⟩
          have X5 := X4.take (k := r.toNat) ntp ntd nt0
          have hG5 : (upd H4 t (.lst (vs2.eraseIdx r.toNat))) G = some (.lst vs1) := by
            rw [upd_ne Gt]
            exact hG4
          have hD5 : (upd H4 t (.lst (vs2.eraseIdx r.toNat))) q1 = some (.tup ((l1.map S).map V.str)) := by
            rw [upd_ne tq.symm]
            exact hD4
          have tk' : TK H4 (upd (upd H4 t (.lst (vs2.eraseIdx r.toNat))) G (.lst (vs1 ++ [y]))) := (TK.mut X4.tt).trans (TK.mut hG5)
          refine ⟨_, hG5, sz_lt (by omega), ts1 ++ [x], ts2.eraseIdx r.toNat, vs1 ++ [y], vs2.eraseIdx r.toNat, by rw [List.length_append, hl1']; rfl, perm_pick pm' hx, by rw [upd_ne Gq.symm]; exact hD5, upd_same, ?_, X5.put Gp Gt Gd G0 hG5⟩
          rw [List.map_append]
          exact DtAll.app (DtAll.keep tk' hA4) (.cons (Dt.keep tk' hDy) .nil)
        · obtain ⟨ts1, ts2, vs1, vs2, hl1', pm', hD3, hG3, hA3, X3⟩ := hP
          have ll' := pm'.length_eq
          rw [List.length_append] at ll'
          have e2 : ts2 = [] := List.length_eq_zero_iff.mp (by omega)
          subst e2
          rw [List.append_nil] at pm'
          refine .inl ⟨G, vs1, rfl, SqL.of hG3, fun q2 nq2 => ?_⟩
          have X7 := X3.new (o := .tup vs1) nq2
          refine ⟨(by show 2 ≤ sizeLine; decide), fun q3 nq3 => ?_⟩
          have X8 := X7.new (o := .tup [.ref q1, .ref q2]) nq3
          have tk1 : TK H3 (upd (upd H3 q2 (.tup vs1)) q3 (.tup [.ref q1, .ref q2])) := (TK.new nq2).trans (TK.new nq3)
          have tk2 : TK (upd H3 q2 (.tup vs1)) (upd (upd H3 q2 (.tup vs1)) q3 (.tup [.ref q1, .ref q2])) := TK.new nq3
          have it : IsTree l1 ts1 := ⟨ls, ts, hG, pm, pm'⟩
          exact q _ q3 l1 ts1 it (fun x hx => ok x (pm.mem_iff.mp hx)) (fun x hx => un x (pm.mem_iff.mp hx)) (by rw [pm.length_eq]; omega) (.tup upd_same (.cons (.tup (tk1.tup _ _ hD3) (dt_strs _ l1)) (.cons (.tup (tk2.tup _ _ upd_same) (DtAll.keep tk1 hA3)) .nil))) X8.sm (X8.dk.mono (by omega))
end
end Far

namespace Far
open PySem PySem.Spec PyProof.Rows L2
open LamX (Tabs ExtN)
open C8 (pss_cut tCut)
open SX (S)
/-- another name in the place of own -/
def ren (own name x : Nm) : Nm := if x = own then name else x
def renT (own name : Nm) (t : Tie) : Tie := (ren own name t.1, ren own name t.2.1, t.2.2)
theorem ren_at (own name x : Nm) : atI [V.str (S x), .str (S name)] (if decide (V.str (S x) = V.str (S own)) = true then 1 else 0) = some (.str (S (ren own name x))) := by
  unfold ren
  by_cases h : x = own
  · rw [if_pos h, if_pos (by rw [h]; exact decide_eq_true rfl)]
    rfl
  · rw [if_neg h, if_neg fun z => h (SX.S_inj (V.str.inj (of_decide_eq_true z)))]
    rfl
theorem last_at {pl : List Nm} (ne : pl ≠ []) : ∃ y, y ∈ pl ∧ atI ((pl.map S).map V.str) (-1) = some (.str (S y)) := by
  obtain ⟨L, b, rfl⟩ := (List.eq_nil_or_concat pl).resolve_left ne
  exact ⟨b, by simp, by rw [List.concat_eq_append, List.map_append, List.map_append]; exact atI_last _ _⟩
theorem SeedAt.same {H H' : Hp} {d : Addr} {n : Nat} (h : SeedAt H d n) (s : Same H H') : SeedAt H' d n := by
  obtain ⟨a, f, k, h1, h2⟩ := h
  exact ⟨a, f, k, s _ _ h1, h2⟩
theorem SmX.of {d : Addr} {H H' : Hp} (s : Same H H') : SmX d H H' := fun b o _ h => s b o h
theorem SeedAt.tkd {H H' : Hp} {d : Addr} {n : Nat} (h : SeedAt H d n) (s : SmX d H H') : TK H H' := h.tk s
theorem tie_at {H : Hp} {i : Nat} {vs : List V} {ts : List Tie} {v : V} (h : DtAll H vs (ts.map tieD)) (hi : vs[i]? = some v) : ∃ (t : Tie) (p : Addr), ts[i]? = some t ∧ v = .ref p ∧ H p = some (.tup [.str (S t.1), .str (S t.2.1), .int t.2.2]) := by
  obtain ⟨d, hd, hv⟩ := DtAll.get h hi
  rw [List.getElem?_map] at hd
  cases e : ts[i]? with
  | none =>
    rw [e] at hd
    cases hd
  | some t =>
    rw [e] at hd
    have ed : d = tieD t := (Option.some.inj hd).symm
    subst ed
    cases hv with
    | tup ha hs =>
      cases hs with
      | cons a hs =>
        cases hs with
        | cons b hs =>
          cases hs with
          | cons c hs =>
            cases hs
            cases a
            cases b
            cases c
            exact ⟨t, _, rfl, rfl, ha⟩
    | tupZ e =>
      rename_i pl0 o0 e1 e2 e3
      have := congrArg List.length e
      cases pl0 with
      | nil => cases this
      | cons x r =>
        have e := e
        injection e with e1 e2
        cases r with
        | nil => cases e2
        | cons y r =>
          injection e2 with e3 e4
          cases r with
          | nil => cases e4
          | cons z r =>
            injection e4 with e5 e6
            cases e5
theorem TupAt.nd {H : Hp} {a d : Addr} {xs : List V} {n : Nat} (h : TupAt H a xs) (D : SeedAt H d n) : a ≠ d := by
  obtain ⟨ys, e⟩ := D.lst
  rcases h with h | ⟨o, _, h⟩ <;> exact ne_of h e (by intro z; cases z)
theorem TupAt.mv {H H' : Hp} {a d : Addr} {xs : List V} (h : TupAt H a xs) (s : SmX d H H') (n : a ≠ d) : TupAt H' a xs := h.elim (fun h => .inl (s a _ n h)) fun ⟨o, e, h⟩ => .inr ⟨o, e, s a _ n h⟩
theorem first_at {pl : List Nm} (ne : pl ≠ []) : ∃ y, y ∈ pl ∧ atI ((pl.map S).map V.str) 0 = some (.str (S y)) := by
  cases pl with
  | nil => exact absurd rfl ne
  | cons a r => exact ⟨a, by simp, atI_nat (j := 0) rfl⟩
theorem Tabs.smx {T : List (Addr × Str)} {H H' : Hp} {d : Addr} {n : Nat} (t : Tabs T H) (D : SeedAt H d n) (s : SmX d H H') : Tabs T H' := fun p hp => by
  obtain ⟨ps, h1, h2, h3⟩ := t p hp
  obtain ⟨xs, e⟩ := D.lst
  refine ⟨ps, s _ _ (ne_of h1 e (by intro z; cases z)) h1, h2, fun pos cv hc => ?_⟩
  obtain ⟨c, e1, e2⟩ := h3 pos cv hc
  exact ⟨c, e1, s _ _ (ne_of e2 e (by intro z; cases z)) e2⟩
structure TxtRR (mg : Str → Option Value) : Prop where
  len : mg "len" = none
  int : mg "int" = none
  tuple : mg "tuple" = none
  range : mg "range" = none
  isinstance : mg "isinstance" = none
  ValueError : mg "ValueError" = none
abbrev s_law_refused_right : Stmt := topS 29
abbrev N_law_refused_right : List Str := ["deck", "one", "other", "name", "own", "places", "ties", "here", "there", "length", "way", "error", "place"]
theorem sc_law_refused_right : FnScope N_law_refused_right ["deck", "one", "other"] (defScope s_law_refused_right) := ⟨rfl, rfl, rfl, by decide +kernel, rfl, by decide +kernel, by decide +kernel⟩
section
variable {P : Program} {w : World} {K : PySem.W.Frag} {mg : Str → Option Value} {base : Heap} {J C aA aT Pb Pw : Addr}
def spRR (Pb Pw : Addr) : Sp := fun vs H Q _ => ∃ (d : Addr) (v v' : V) (n : Nat) (pl pl' : List Nm) (ts ts' : List Tie), vs = [.ref d, v, v'] ∧ SeedAt H d n ∧ n < 90000 ∧ Dt H v (treeD pl ts) ∧ Dt H v' (treeD pl' ts') ∧ (∀ x ∈ pl, NameOk x) ∧ pl ≠ [] ∧ pl' ≠ [] ∧ pl.length ≤ 30 ∧ pl'.length ≤ 30 ∧ ts'.length ≤ 30 ∧ Tabs [(Pb, qB), (Pw, qW)] H ∧
  ∀ H' : Hp, SmX d H H' → SeedAt H' d (n + 10) → Q (.bl true) H'
theorem ok_rr {f : Addr} {fd : FuncData} (F : Fun K "_law_refused_right" "_law_refused_right" s_law_refused_right f fd) (T : TxtRR mg) (G : KindJ K mg J C aA aT) (C_law_draw : Cal P w K mg base 1 "_law_draw" spDraw) (C_law_caught : Cal P w K mg base 7 "_law_caught" (spCaught J Pb Pw)) : FnOk P w K mg base CX0 8 f fd ["deck", "one", "other"] (spRR Pb Pw) := by
  refine F.ok sc_law_refused_right (fun vs H Q E h => ?_) (fun cdv A outer s H vs Q E hr h => ?_)
  · obtain ⟨d, v, v', n, pl, pl', ts, ts', rfl, _⟩ := h
    rfl
  · obtain ⟨d, v, v', n, pl, pl', ts, ts', rfl, DD, hn, hd, hd', oks, ne, ne', l1, l2, l3, hT, q⟩ := h
    obtain ⟨t, a, b, vs, rfl, ht, ha, hb, hA⟩ := dt_tree hd
    obtain ⟨t', a', b', vs', rfl, ht', ha', hb', hA'⟩ := dt_tree hd'
    have pl0 : 0 < pl.length := List.length_pos_iff.mpr ne
    have ql0 : 0 < pl'.length := List.length_pos_iff.mpr ne'
    have td : t ≠ d := TupAt.nd (.inl ht) DD
    have ad : a ≠ d := ha.nd DD
    have t'd : t' ≠ d := TupAt.nd (.inl ht') DD
    have a'd : a' ≠ d := ha'.nd DD
    have b'd : b' ≠ d := TupAt.nd (.inl hb') DD
    refine ⟨_, (pss_cons (ps_set (i := 3) sc_law_refused_right.nd rfl (.inr rfl) (pe_ix ix_list (pe_lst (pa_cons (pe_ix ix_tup (pe_ix ix_tup (pv 1) pe_int (fun _ _ => rfl)) (pe_c C_law_draw hr (by decide) rfl (pa_cons (pv 0) (pa_cons (pe_callB call_len_seq (by rfl) T.len bt_len (pa_cons (pe_ix ix_tup (pv 1) pe_int (fun _ _ => rfl)) pa_nil)) pa_nil))) (fun _ _ => rfl)) (pa_cons (pe_ix ix_tup (pe_ix ix_tup (pv 1) pe_int (fun _ _ => rfl)) (pe_un un_neg pe_int) (fun _ _ => rfl)) (pa_cons (pe_ix ix_tup (pe_ix ix_tup (pv 1) pe_int (fun _ _ => rfl)) pe_int (fun _ _ => rfl)) pa_nil)))) (pe_c C_law_draw hr (by decide) rfl (pa_cons (pv 0) (pa_cons pe_int pa_nil))) (fun _ _ => rfl)))
      (pss_cons (ps_set (i := 4) sc_law_refused_right.nd rfl (.inr rfl) (pe_ix ix_list (pe_lst (pa_cons (pe_ix ix_tup (pe_ix ix_tup (pv 2) pe_int (fun _ _ => rfl)) (pe_c C_law_draw hr (by decide) rfl (pa_cons (pv 0) (pa_cons (pe_callB call_len_seq (by rfl) T.len bt_len (pa_cons (pe_ix ix_tup (pv 2) pe_int (fun _ _ => rfl)) pa_nil)) pa_nil))) (fun _ _ => rfl)) (pa_cons (pe_ix ix_tup (pe_ix ix_tup (pv 2) pe_int (fun _ _ => rfl)) (pe_un un_neg pe_int) (fun _ _ => rfl)) pa_nil))) (pe_c C_law_draw hr (by decide) rfl (pa_cons (pv 0) (pa_cons pe_int pa_nil))) (fun _ _ => rfl)))
      (pss_cons (ps_set (i := 5) sc_law_refused_right.nd rfl (.inl rfl) (pe_tupleOf (by rfl) T.tuple (pe_lc (own := [("place", 12)]) (g := gName 12) (tt := tYes) rfl sc_law_refused_right.nd (pi_tup (pe_ix ix_tup (pv 2) pe_int (fun _ _ => rfl))) (blkOk_by (N := N_law_refused_right) (sc := defScope s_law_refused_right) (by decide +kernel)) (fun _ _ _ _ _ => pg_name (i := 12) sc_law_refused_right.nd rfl (Or.inl rfl)) (fun _ _ _ _ _ => pts_nil) (fun _ _ _ _ _ => (pe_ix (ixl (K := K)) (pe_lst (pa_cons (pv 12) (pa_cons (pv 3) pa_nil))) (pe_callTy call_int1 (by rfl) T.int bt_int (pa_cons (pe_cmpR op_eq (pv 12) (pv 4) (nomark _)) pa_nil)) (fun _ _ => rfl))))))
      (pss_cons (ps_set (i := 6) sc_law_refused_right.nd rfl (.inl rfl) (pe_lst pa_nil))
      (pss_cut (ps_for PassesOwn.never rfl (pi_tup (pe_ix ix_tup (pv 2) pe_int (fun _ _ => rfl))) (pg_tup rfl (pgs_cons (pg_name (i := 7) sc_law_refused_right.nd rfl (.inl rfl)) (pgs_cons (pg_name (i := 8) sc_law_refused_right.nd rfl (.inl rfl)) (pgs_cons (pg_name (i := 9) sc_law_refused_right.nd rfl (.inl rfl)) pgs_nil))))
        (pss_one (ps_expr (pe_bm PySem.F.plainAttrs_list PySem.F.slot_list_append PySem.F.type_list_append mt_append (pv 6) (pa_cons (pe_tup (pa_cons (pe_ix ix_list (pe_lst (pa_cons (pv 7) (pa_cons (pv 3) pa_nil))) (pe_callTy call_int1 (by rfl) T.int bt_int (pa_cons (pe_cmpR op_eq (pv 7) (pv 4) (nomark _)) pa_nil)) (fun _ _ => rfl)) (pa_cons (pe_ix ix_list (pe_lst (pa_cons (pv 8) (pa_cons (pv 3) pa_nil))) (pe_callTy call_int1 (by rfl) T.int bt_int (pa_cons (pe_cmpR op_eq (pv 8) (pv 4) (nomark _)) pa_nil)) (fun _ _ => rfl)) (pa_cons (pv 9) pa_nil)))) pa_nil)))))
      (pss_cut (ps_for PassesOwn.never rfl (pi_range1 (by rfl) T.range (pa_cons pe_int pa_nil)) (pg_name (i := 10) sc_law_refused_right.nd rfl (.inl rfl))
        (pss_cons (ps_set (i := 11) sc_law_refused_right.nd rfl (.inl rfl) (pe_c C_law_caught hr (by decide) rfl (pa_cons (pv 1) (pa_cons (pe_tup (pa_cons (pv 5) (pa_cons (pe_tupleOf (by rfl) T.tuple (pv 6)) pa_nil))) (pa_cons (pe_op op_add pe_int (pe_c C_law_draw hr (by decide) rfl (pa_cons (pv 0) (pa_cons pe_int pa_nil)))) (pa_cons (pv 10) pa_nil))))))
        (pss_cut (ps_if (PW.pt (pw_or (pt_val (pe_callB (call_isAT (K := K)) (by rfl) T.isinstance bt_isinstance (pa_cons (pv 11) (pa_cons (pe_tup (pa_cons (pe_glob (v := .ref aA) rfl G.gNoAsk rfl) (pa_cons (pe_glob (v := .ref C) rfl G.gNoPlace rfl) (pa_cons (pe_glob (v := .ref aT) rfl G.gNoTree rfl) pa_nil)))) pa_nil)))) (pw_or1 (pt_not (pt_val (pe_callB (call_isA (K := K)) (by rfl) T.isinstance bt_isinstance (pa_cons (pv 11) (pa_cons (pe_bltn (v := .ty "ValueError") (by rfl) T.ValueError bt_ValueError rfl) pa_nil))))))))
          (pss_one (ps_ret pe_bl))
          pss_nil)
        (pss_one (ps_if (pt_not (pt_val (pe_callB (call_isA (K := K)) (by rfl) T.isinstance bt_isinstance (pa_cons (pv 11) (pa_cons (pe_glob (v := .ref J) rfl G.gNoJoin rfl) pa_nil)))))
          (pss_one (ps_ret pe_bl))
          pss_nil)))))
      (pss_one (ps_ret pe_bl)))))))), ?_⟩
    -- name
    refine ⟨_, rfl, t, _, 0, .ref a, rfl, rfl, SqT.of ht, atI_nat (j := 0) rfl, _, rfl, _, rfl, t, _, 0, .ref a, rfl, rfl, SqT.of ht, atI_nat (j := 0) rfl, a, _, rfl, .inr ha.sq, d, _, _, rfl, DD, by omega, by rw [List.length_map, List.length_map]; omega, by rw [List.length_map, List.length_map]; omega, fun H2 r2 r20 r21 S2 D2 => ?_⟩
    obtain ⟨v, hv, mv⟩ := atI_in r20 r21
    obtain ⟨y1, my1, rfl⟩ := strs_at mv
    have ht2 := S2 t _ td ht
    have ha2 := ha.mv S2 ad
    refine ⟨a, _, r2, _, rfl, rfl, ha2.sq, hv, ?_⟩
    obtain ⟨y2, my2, hy2⟩ := last_at ne
    obtain ⟨y3, my3, hy3⟩ := first_at ne
    refine ⟨_, rfl, t, _, 0, .ref a, rfl, rfl, SqT.of ht2, atI_nat (j := 0) rfl, _, rfl, a, _, -1, _, rfl, rfl, ha2.sq, hy2, _, rfl, t, _, 0, .ref a, rfl, rfl, SqT.of ht2, atI_nat (j := 0) rfl, a, _, 0, _, rfl, rfl, ha2.sq, hy3, (by show 3 ≤ sizeLine; decide), fun p np => ?_⟩
    refine ⟨_, rfl, d, _, 3, rfl, D2.new np, by omega, by decide, by decide, fun H3 r3 r30 r31 S3 D3 => ?_⟩
    have hp3 := S3 p _ (D2.nd np) upd_same
    obtain ⟨v, hv, mv⟩ := atI_in (xs := [V.str (S y1), .str (S y2), .str (S y3)]) r30 (by simpa using r31)
    obtain ⟨name, rfl, mname⟩ : ∃ l : Nm, v = .str (S l) ∧ l ∈ pl := by
      simp only [List.mem_cons, List.not_mem_nil, or_false] at mv
      rcases mv with e | e | e
      · exact ⟨y1, e, my1⟩
      · exact ⟨y2, e, my2⟩
      · exact ⟨y3, e, my3⟩
    refine ⟨p, _, r3, _, rfl, rfl, SqL.of hp3, hv, ?_⟩
    have SM3 : SmX d H H3 := (S2.new np).trans S3
    -- own
    have ht3 := SM3 t' _ t'd ht'
    have ha3 := ha'.mv SM3 a'd
    refine ⟨_, rfl, t', _, 0, .ref a', rfl, rfl, SqT.of ht3, atI_nat (j := 0) rfl, _, rfl, _, rfl, t', _, 0, .ref a', rfl, rfl, SqT.of ht3, atI_nat (j := 0) rfl, a', _, rfl, .inr ha3.sq, d, _, _, rfl, D3, by omega, by rw [List.length_map, List.length_map]; omega, by rw [List.length_map, List.length_map]; omega, fun H4 r4 r40 r41 S4 D4 => ?_⟩
    obtain ⟨v, hv, mv⟩ := atI_in r40 r41
    obtain ⟨z1, mz1, rfl⟩ := strs_at mv
    have ht4 := S4 t' _ t'd ht3
    have ha4 := ha3.mv S4 a'd
    refine ⟨a', _, r4, _, rfl, rfl, ha4.sq, hv, ?_⟩
    obtain ⟨z2, mz2, hz2⟩ := last_at ne'
    refine ⟨_, rfl, t', _, 0, .ref a', rfl, rfl, SqT.of ht4, atI_nat (j := 0) rfl, _, rfl, a', _, -1, _, rfl, rfl, ha4.sq, hz2, (by show 2 ≤ sizeLine; decide), fun p5 np5 => ?_⟩
    refine ⟨_, rfl, d, _, 2, rfl, D4.new np5, by omega, by decide, by decide, fun H6 r6 r60 r61 S6 D6 => ?_⟩
    have hp6 := S6 p5 _ (D4.nd np5) upd_same
    obtain ⟨v, hv, mv⟩ := atI_in (xs := [V.str (S z1), .str (S z2)]) r60 (by simpa using r61)
    obtain ⟨own, rfl, mown⟩ : ∃ l : Nm, v = .str (S l) ∧ l ∈ pl' := by
      simp only [List.mem_cons, List.not_mem_nil, or_false] at mv
      rcases mv with e | e
      · exact ⟨z1, e, mz1⟩
      · exact ⟨z2, e, mz2⟩
    refine ⟨p5, _, r6, _, rfl, rfl, SqL.of hp6, hv, ?_⟩
    have SM6 : SmX d H H6 := ((SM3.trans S4).new np5).trans S6
    have ht6 := SM6 t' _ t'd ht'
    have ha6 := ha'.mv SM6 a'd
    have tk6 : TK H H6 := DD.tk SM6
    have hT6 := Far.Tabs.smx hT DD SM6
    clear hv mv hp3 hp6 S2 S3 S4 S6 ht2 ha2 ht3 ha3 ht4 ha4 SM3 r20 r21 r30 r31 r40 r41 r60 r61 np np5 D2 D3 D4
    -- places
    refine ⟨_, rfl, t', _, 0, .ref a', rfl, rfl, SqT.of ht6, atI_nat (j := 0) rfl, a', rfl, ⟨_, ha6.sq⟩, fun D nD => ?_⟩
    refine lc_tup (K := K) (a := a') (xs := (pl'.map S).map V.str) (fun i H'' => Same H6 H'' ∧ H'' D = some (.lst ((((pl'.take i).map (ren own name)).map S).map V.str))) ⟨same_new (Same.refl H6) nD, upd_same⟩ (fun i H'' _ hP => (ha6.same hP.1).sq) (fun j v H'' hj hP => ?_) (fun H'' hP => ?_)
    · obtain ⟨S7, hDD⟩ := hP
      obtain ⟨x, hx, mx, rfl, et⟩ := at_name hj
      have xl := (List.getElem?_eq_some_iff.mp hx).1
      refine ⟨rfl, _, rfl, _, rfl, (by show 2 ≤ sizeLine; decide), fun e ne => ?_⟩
      have De : D ≠ e := ne_of_none hDD ne
      refine ⟨_, rfl, _, rfl, rfl, .inr ⟨_, rfl, e, _, _, _, rfl, rfl, SqL.of upd_same, ren_at own name x, ?_⟩⟩
      refine ⟨_, by rw [upd_ne De]; exact hDD, by rw [List.length_map, List.length_map, List.length_map, List.length_take]; exact sz_lt (by omega), same_put (same_new S7 ne) nD, ?_⟩
      rw [upd_same, et, List.map_append, List.map_append, List.map_append]
      rfl
    obtain ⟨S7, hDD⟩ := hP
    rw [List.length_map, List.length_map, List.take_length] at hDD
    refine .inl ⟨D, _, rfl, SqL.of hDD, fun q1 nq1 => ?_⟩
    have S8 := same_new (o := .tup (((pl'.map (ren own name)).map S).map V.str)) S7 nq1
    have hq1 : (upd H'' q1 (.tup (((pl'.map (ren own name)).map S).map V.str))) q1 = some (.tup (((pl'.map (ren own name)).map S).map V.str)) := upd_same
    generalize upd H'' q1 (.tup (((pl'.map (ren own name)).map S).map V.str)) = H8 at S8 hq1
    -- ties
    refine ⟨Nat.zero_le _, fun tq ntq => ?_⟩
    have S9 := same_new (o := .lst []) S8 ntq
    have tq1 : q1 ≠ tq := ne_of_none hq1 ntq
    have tqd : tq ≠ d := (D6.same S8).nd ntq
    have tq6 : H6 tq = none := S8.free ntq
    have vl' : vs'.length = ts'.length := by
      have := DtAll.len hA'
      rwa [List.length_map] at this
    refine ⟨fun σ2 H2 => ∃ (x7 x8 x9 : Option V) (ws : List V), σ2 = [some (.ref d), some (.ref t), some (.ref t'), some (.str (S name)), some (.str (S own)), some (.ref q1), some (.ref tq), x7, x8, x9, none, none, none] ∧ Same H6 H2 ∧ H2 q1 = some (.tup (((pl'.map (ren own name)).map S).map V.str)) ∧ H2 tq = some (.lst ws) ∧ DtAll H2 ws ((ts'.map (renT own name)).map tieD), ?_, fun σ2 H2 hM => ?_⟩
    · refine ⟨_, rfl, t', _, 1, .ref b', rfl, rfl, SqT.of (S9 _ _ ht6), atI_nat (j := 1) rfl, b', rfl, ⟨_, SqT.of (S9 _ _ (SM6 _ _ b'd hb'))⟩, for_tup (K := K) (a := b') (xs := vs') (fun j σ2 H2 => ∃ (x7 x8 x9 : Option V) (ws : List V), σ2 = [some (.ref d), some (.ref t), some (.ref t'), some (.str (S name)), some (.str (S own)), some (.ref q1), some (.ref tq), x7, x8, x9, none, none, none] ∧ Same H6 H2 ∧ H2 q1 = some (.tup (((pl'.map (ren own name)).map S).map V.str)) ∧ H2 tq = some (.lst ws) ∧ DtAll H2 ws (((ts'.take j).map (renT own name)).map tieD)) ⟨_, _, _, [], rfl, S9, by rw [upd_ne tq1]; exact hq1, upd_same, .nil⟩ (fun j σ2 H2 _ hP => ?_) (fun j v σ2 H2 hj hP => ?_) (fun σ2 H2 hP => ?_)⟩
      · obtain ⟨_, _, _, _, _, S10, _⟩ := hP
        exact SqT.of (S10 _ _ (SM6 _ _ b'd hb'))
      · obtain ⟨x9, x10, x11, ws, rfl, S10, hq, hw, hW⟩ := hP
        obtain ⟨t3, p3, ht3, rfl, hp3⟩ := tie_at (DtAll.keep (tk6.trans (TK.of S10)) hA') hj
        have jl := (List.getElem?_eq_some_iff.mp ht3).1
        refine ⟨p3, _, rfl, SqT.of hp3, rfl, _, _, rfl, _, _, rfl, _, _, rfl, rfl, ?_⟩
        refine ⟨_, rfl, .inl ⟨rfl, _, SqL.of hw⟩, _, rfl, _, rfl, (by show 2 ≤ sizeLine; decide), fun e1 ne1 => ?_⟩
        refine ⟨_, rfl, _, rfl, rfl, .inr ⟨_, rfl, e1, _, _, _, rfl, rfl, SqL.of upd_same, ren_at own name t3.1, ?_⟩⟩
        refine ⟨_, rfl, _, rfl, (by show 2 ≤ sizeLine; decide), fun e2 ne2 => ?_⟩
        refine ⟨_, rfl, _, rfl, rfl, .inr ⟨_, rfl, e2, _, _, _, rfl, rfl, SqL.of upd_same, ren_at own name t3.2.1, ?_⟩⟩
        refine ⟨_, rfl, (by show 3 ≤ sizeLine; decide), fun e3 ne3 => ?_⟩
        have S11 := same_new (o := .tup [.str (S (ren own name t3.1)), .str (S (ren own name t3.2.1)), .int t3.2.2]) (same_new (o := .lst [.str (S t3.2.1), .str (S name)]) (same_new (o := .lst [.str (S t3.1), .str (S name)]) (Same.refl H2) ne1) ne2) ne3
        have he3 : (upd (upd (upd H2 e1 (.lst [.str (S t3.1), .str (S name)])) e2 (.lst [.str (S t3.2.1), .str (S name)])) e3 (.tup [.str (S (ren own name t3.1)), .str (S (ren own name t3.2.1)), .int t3.2.2])) e3 = some (.tup [.str (S (ren own name t3.1)), .str (S (ren own name t3.2.1)), .int t3.2.2]) := upd_same
        generalize upd (upd (upd H2 e1 (.lst [.str (S t3.1), .str (S name)])) e2 (.lst [.str (S t3.2.1), .str (S name)])) e3 (.tup [.str (S (ren own name t3.1)), .str (S (ren own name t3.2.1)), .int t3.2.2]) = H11 at S11 he3
        have wl : ws.length = j := by
          have := DtAll.len hW
          rw [List.length_map, List.length_map, List.length_take] at this
          omega
        refine ⟨tq, ws, _, rfl, rfl, S11 _ _ hw, sz_lt (by omega), ?_⟩
        have tk11 : TK H11 (upd H11 tq (.lst (ws ++ [.ref e3]))) := TK.mut (S11 _ _ hw)
        refine ⟨_, _, _, _, rfl, same_put (S10.trans S11) tq6, by rw [upd_ne tq1]; exact S11 _ _ hq, upd_same, ?_⟩
        rw [List.take_add_one, ht3, List.map_append, List.map_append]
        exact DtAll.app (DtAll.keep ((TK.of S11).trans tk11) hW) (.cons (.tup (tk11.tup _ _ he3) (.cons (.str _) (.cons (.str _) (.cons (.int _) .nil)))) .nil)
      · obtain ⟨x9, x10, x11, ws, rfl, S10, hq, hw, hW⟩ := hP
        rw [List.take_of_length_le (by omega)] at hW
        exact ⟨_, _, _, ws, rfl, S10, hq, hw, hW⟩
    obtain ⟨x7, x8, x9, ws, rfl, S10, hq, hw, hW⟩ := hM
    have D10 := D6.same S10
    have hT10 := LamX.Tabs.ext hT6 S10
    have hd10 := Dt.keep (tk6.trans (TK.of S10)) hd
    have shr : ∃ x ∈ pl, x ∈ pl'.map (ren own name) := ⟨name, mname, List.mem_map.mpr ⟨own, mown, if_pos rfl⟩⟩
    -- the two ways
    refine ⟨fun σ' H' => SmX d H H' ∧ SeedAt H' d (n + 10), ?_, fun σ' H' hM => q H' hM.1 hM.2⟩
    refine ⟨2, rfl, by decide, by decide, for_range (lo := 0) (n := (2 : Int).toNat) (fun i σ' H' => (∃ x10 x11, σ' = [some (.ref d), some (.ref t), some (.ref t'), some (.str (S name)), some (.str (S own)), some (.ref q1), some (.ref tq), x7, x8, x9, x10, x11, none]) ∧ SmX d H2 H' ∧ SeedAt H' d (n + 4 + i)) ⟨⟨_, _, rfl⟩, SmX.refl _, D10⟩ (fun i σ' H' hi hP => ?_) (fun σ' H' hP => ?_)⟩
    · obtain ⟨⟨x10, x11, rfl⟩, SX, DI⟩ := hP
      have hi : i < 2 := hi
      have tkI := D10.tk SX
      have hqI := tkI.tup _ _ hq
      have hwI := SX _ _ tqd hw
      have hWI := DtAll.keep tkI hW
      refine ⟨_, rfl, _, rfl, _, rfl, .inl ⟨tq, _, rfl, SqL.of hwI, fun q2 nq2 => ⟨(by show 2 ≤ sizeLine; decide), fun q3 nq3 => ?_⟩⟩⟩
      have V3 := same_new (o := .tup [.ref q1, .ref q2]) (same_new (o := .tup ws) (Same.refl H') nq2) nq3
      have du : Dt (upd (upd H' q2 (.tup ws)) q3 (.tup [.ref q1, .ref q2])) (.ref q3) (treeD (pl'.map (ren own name)) (ts'.map (renT own name))) := .tup upd_same (.cons (.tup (((TK.new nq2).trans (TK.new nq3)).tup _ _ hqI) (dt_strs _ _)) (.cons (.tup ((TK.new nq3).tup _ _ upd_same) (DtAll.keep ((TK.new nq2).trans (TK.new nq3)) hWI)) .nil))
      generalize upd (upd H' q2 (.tup ws)) q3 (.tup [.ref q1, .ref q2]) = H3 at V3 du
      have D3 := DI.same V3
      refine ⟨_, rfl, d, _, 9, rfl, D3, by omega, by decide, by decide, fun H4 r r0 r1 S4 D4 => ⟨_, _, rfl, rfl, _, rfl, ?_⟩⟩
      have SX4 : SmX d H2 H4 := (SX.trans (SmX.of V3)).trans S4
      refine ⟨.ref t, .ref q3, pl, pl'.map (ren own name), ts, ts'.map (renT own name), 1 + r, _, rfl, Dt.keep (D10.tk SX4) hd10, Dt.keep (D3.tk S4) du, oks, by omega, by rw [List.length_map]; omega, Far.Tabs.smx hT10 D10 SX4, shr, fun H5 e S5 ct => ?_⟩
      refine ⟨fun σ' H' => (∃ x10, σ' = [some (.ref d), some (.ref t), some (.ref t'), some (.str (S name)), some (.str (S own)), some (.ref q1), some (.ref tq), x7, x8, x9, x10, some (.ref e), none]) ∧ Same H5 H', ?_, fun σ' H6' hM => ?_⟩
      · refine ⟨_, rfl, (by show 3 ≤ sizeLine; decide), fun p np => ?_⟩
        have S1 := same_new (o := .tup [.ref aA, .ref C, .ref aT]) (Same.refl H5) np
        refine ⟨e, J, p, _, _, false, rfl, ct.same S1, G.excJ, upd_same, .cons (.own _) (.cons (.own _) (.cons (.own _) .nil)), kit_none G.jA G.jC G.jT, ?_⟩
        refine ⟨_, rfl, iteF ?_⟩
        exact ⟨_, rfl, e, J, .ty "ValueError", .type "ValueError", true, rfl, ct.same S1, G.excJ, .ty _, G.jV, _, rfl, iteF ⟨⟨_, rfl⟩, S1⟩⟩
      · obtain ⟨⟨z10, rfl⟩, S6⟩ := hM
        exact ⟨_, rfl, e, J, .ref J, .ref J, true, rfl, ct.same S6, G.excJ, .own _, kit_self, _, rfl, iteF ⟨⟨_, _, rfl⟩, SX4.trans (SmX.of (S5.trans S6)), (D4.same (S5.trans S6)).mono (by omega)⟩⟩
    · obtain ⟨⟨x10, x11, rfl⟩, SX, DI⟩ := hP
      exact ⟨fun b o nb h => SX b o nb (S10 b o (SM6 b o nb h)), DI.mono (by show n + 4 + 2 ≤ n + 10; omega)⟩
end
end Far

namespace Far
open PySem PySem.Spec PyProof.Rows L2
open LamX (Tabs ExtN)
open C8 (pss_cut tCut)
open SX (S)
theorem lay_tris : ∀ {xs : List Tri}, (∀ x ∈ xs, NameOk x.2.1 ∧ NameOk x.2.2) → PyData.canLayAll0 (xs.map triD) = true
  | [], _ => rfl
  | x :: r, h => by
    obtain ⟨h1, h2⟩ := h x (List.mem_cons_self ..)
    have ih := lay_tris fun y hy => h y (List.mem_cons_of_mem _ hy)
    show (PyData.canLay0 (triD x) && PyData.canLayAll0 (r.map triD)) = true
    rw [ih, Bool.and_true]
    show (true && (PyData.strOk (S x.2.1) && (PyData.strOk (S x.2.2) && true))) = true
    rw [strOk_S h1, strOk_S h2]
    rfl
theorem dep_tris : ∀ xs : List Tri, PyData.depthAll (xs.map triD) ≤ 1
  | [] => Nat.zero_le _
  | x :: r => by
    show max (PyData.depth (triD x)) (PyData.depthAll (r.map triD)) ≤ 1
    have ih := dep_tris r
    have e : PyData.depth (triD x) = 1 := rfl
    rw [e]
    omega
theorem shaped_tris {xs : List Tri} (h : ∀ x ∈ xs, NameOk x.2.1 ∧ NameOk x.2.2) : SeqAt.shaped (.list (xs.map triD)) = true := by
  show (PyData.canLayAll0 (xs.map triD) && decide (PyData.depthAll (xs.map triD) + 1 ≤ 64)) = true
  have := dep_tris xs
  rw [lay_tris h, decide_eq_true (by omega)]
  rfl
theorem eqv_same {d : PyData} (h : SeqAt.shaped d = true) : PyData.eqv d d = true := SeqAt.eqv_refl d (by
  unfold SeqAt.shaped at h
  simp at h
  exact h.1)
theorem tri_shaped {x : Tri} (h1 : NameOk x.2.1) (h2 : NameOk x.2.2) : SeqAt.shaped (triD x) = true := by
  show ((true && (PyData.strOk (S x.2.1) && (PyData.strOk (S x.2.2) && true))) && decide (_ ≤ 64)) = true
  rw [strOk_S h1, strOk_S h2]
  rfl
theorem tri_plain (x : Tri) : Plain 4 (triD x) := by
  refine .tup (fun d hd => ?_) (by show 3 ≤ 1000; decide)
  simp only [List.mem_cons, List.not_mem_nil, or_false] at hd
  rcases hd with e | e | e <;> subst e
  · exact .int _ _
  · exact .str _ _
  · exact .str _ _
theorem joins_names {pl pl' : List Nm} {ts ts' : List Tie} {k : Int} {x : Tri} (h : x ∈ joinsOf pl pl' ts ts' k pl) : x.2.1 ∈ pl ∧ x.2.2 ∈ pl' := by
  unfold joinsOf at h
  obtain ⟨u, hu, h2⟩ := List.mem_flatMap.mp h
  obtain ⟨v, hv, rfl⟩ := List.mem_map.mp h2
  exact ⟨hu, hv⟩
theorem SeedAt.ofN {H H' : Hp} {d : Addr} {n : Nat} (h : SeedAt H d n) (e : ExtN H H') : SeedAt H' d n := by
  obtain ⟨a, f, k, h1, h2⟩ := h
  exact ⟨a, f, k, e _ _ h1 (fun ps z => by cases z), h2⟩
theorem fine_at (c : Nat) (h1 : 97 ≤ c) (h2 : c ≤ 122) : Fine [[c]] [] := ⟨⟨[[c]], [], .one _, .refl _, .refl _⟩, fun l hl => by
  rw [List.mem_singleton.mp hl]
  exact ⟨by simp, by simp, fun x hx => by rw [List.mem_singleton.mp hx]; exact ⟨h1, h2⟩⟩, by simp⟩
theorem rch_one (c : Nat) (h1 : 97 ≤ c) (h2 : c ≤ 122) : rch [[c]] [] [c] = 0 := by
  unfold rch
  rw [List.map_singleton, ((fine_at c h1 h2).tree.dist_self [c]).1]
  rfl
abbrev s_law : Stmt := topS 30
abbrev N_law : List Str := ["script", "deck", "turn", "one", "other", "length", "joins", "best", "worst", "join"]
theorem sc_law : FnScope N_law ["script"] (defScope s_law) := ⟨rfl, rfl, rfl, by decide +kernel, rfl, by decide +kernel, by decide +kernel⟩
section
variable {P : Program} {w : World} {K : PySem.W.Frag} {mg : Str → Option Value} {base : Heap} {J Pb Pw : Addr}
def spLawT (K : PySem.W.Frag) (Pb Pw : Addr) : Sp := fun vs H Q _ => ∃ (a : Addr) (ns : List Int), vs = [.ref a] ∧ SqL K H a (ns.map V.int) ∧ ns.length ≤ 63 ∧ (∀ z ∈ ns, Builtin.Int.intBits z ≤ 1048576) ∧ Tabs [(Pb, qB), (Pw, qW)] H ∧ ∀ H', Q (.bl true) H'
structure TxtLL (mg : Str → Option Value) : Prop where
  len : mg "len" = none
  range : mg "range" = none
  min : mg "min" = none
  max : mg "max" = none
theorem ok_law {f : Addr} {fd : FuncData} (F : Fun K "law" "law" s_law f fd) (T : TxtLL mg) (C_law_deck : Cal P w K mg base 1 "_law_deck" (spDeck K)) (C_law_draw : Cal P w K mg base 1 "_law_draw" spDraw) (C_law_tree : Cal P w K mg base 3 "_law_tree" spTree) (C_law_joins : Cal P w K mg base 3 "_law_joins" spLJ) (C_law_by_trial : Cal P w K mg base 3 "_law_by_trial" spTrial) (C_law_first : Cal P w K mg base 1 "_law_first" spFirst) (C_law_same : Cal P w K mg base 5 "_law_same" (spSame 4))
    (Cbest_join : CalX P w K mg base 6 "best_join" (spBest J Pb Pw id)) (Cworst_join : CalX P w K mg base 6 "worst_join" (spBest J Pb Pw fun i => -i)) (C_law_refused_right : Cal P w K mg base 8 "_law_refused_right" (spRR Pb Pw)) : FnOk P w K mg base CX0 9 f fd ["script"] (spLawT K Pb Pw) := by
  refine F.ok sc_law (fun vs H Q E h => ?_) (fun cdv A outer s H vs Q E hr h => ?_)
  · obtain ⟨a, ns, rfl, _⟩ := h
    rfl
  · obtain ⟨a0, ns, rfl, hS, hl, hb, hT, q⟩ := h
    have e6 : (10 : Int) ^ (6 : Int).toNat = 1000000 := by decide
    refine ⟨_, (pss_cons (ps_set (i := 1) sc_law.nd rfl (.inl rfl) (pe_c C_law_deck hr (by decide) rfl (pa_cons (pv 0) pa_nil)))
      (pss_cut (ps_for PassesOwn.never rfl (pi_range1 (by rfl) T.range (pa_cons pe_int pa_nil)) (pg_name (i := 2) sc_law.nd rfl (.inl rfl))
        (pss_cons (ps_set (i := 3) sc_law.nd rfl (.inl rfl) (pe_c C_law_tree hr (by decide) rfl (pa_cons (pv 1) (pa_cons (pe_ix ix_list (pe_lst (pa_cons pe_int (pa_cons pe_int (pa_cons pe_int (pa_cons pe_int pa_nil))))) (pv 2) (fun _ _ => rfl)) (pa_cons (pe_lst pa_nil) pa_nil)))))
        (pss_cons (ps_set (i := 4) sc_law.nd rfl (.inl rfl) (pe_c C_law_tree hr (by decide) rfl (pa_cons (pv 1) (pa_cons (pe_ix ix_list (pe_lst (pa_cons pe_int (pa_cons pe_int (pa_cons pe_int (pa_cons pe_int pa_nil))))) (pv 2) (fun _ _ => rfl)) (pa_cons (pe_ix ix_tup (pv 3) pe_int (fun _ _ => rfl)) pa_nil)))))
        (pss_cons (ps_set (i := 5) sc_law.nd rfl (.inl rfl) (pe_ix ix_list (pe_lst (pa_cons pe_int (pa_cons (pe_op op_add pe_int (pe_c C_law_draw hr (by decide) rfl (pa_cons (pv 1) (pa_cons pe_int pa_nil)))) (pa_cons (pe_op op_add pe_int (pe_c C_law_draw hr (by decide) rfl (pa_cons (pv 1) (pa_cons (pe_op op_pow pe_int pe_int) pa_nil)))) pa_nil)))) (pe_c C_law_draw hr (by decide) rfl (pa_cons (pv 1) (pa_cons pe_int pa_nil))) (fun _ _ => rfl)))
        (pss_cons (ps_set (i := 6) sc_law.nd rfl (.inl rfl) (pe_c C_law_joins hr (by decide) rfl (pa_cons (pv 3) (pa_cons (pv 4) (pa_cons (pv 5) pa_nil)))))
        (pss_cut (ps_if (PW.pt (pw_and (pt_cmpR op_lt (pe_op op_add (pe_callB call_len_seq (by rfl) T.len bt_len (pa_cons (pe_ix ix_tup (pv 3) pe_int (fun _ _ => rfl)) pa_nil)) (pe_callB call_len_seq (by rfl) T.len bt_len (pa_cons (pe_ix ix_tup (pv 4) pe_int (fun _ _ => rfl)) pa_nil))) pe_int (nomark _)) (pw_and1 (pt_cmpR (op_neD (hd_of hr (by decide))) (pv 6) (pe_c C_law_by_trial hr (by decide) rfl (pa_cons (pv 3) (pa_cons (pv 4) (pa_cons (pv 5) pa_nil)))) (nomark _)))))
          (pss_one (ps_ret pe_bl))
          pss_nil)
        (pss_cons (ps_set (i := 7) sc_law.nd rfl (.inl rfl) (pe_c C_law_first hr (by decide) rfl (pa_cons (pv 6) (pa_cons (pe_callB (cr_min rfl) (by rfl) T.min bt_min (pa_cons (pe_lc (own := [("join", 9)]) (g := gName 9) (tt := tYes) rfl sc_law.nd (pi_list (pv 6)) (blkOk_by (N := N_law) (sc := defScope s_law) (by decide +kernel)) (fun _ _ _ _ _ => pg_name (i := 9) sc_law.nd rfl (Or.inl rfl)) (fun _ _ _ _ _ => pts_nil) (fun _ _ _ _ _ => (pe_ix (ixt (K := K)) (pv 9) pe_int (fun _ _ => rfl)))) pa_nil)) pa_nil))))
        (pss_cons (ps_set (i := 8) sc_law.nd rfl (.inl rfl) (pe_c C_law_first hr (by decide) rfl (pa_cons (pv 6) (pa_cons (pe_callB (cr_max rfl) (by rfl) T.max bt_max (pa_cons (pe_lc (own := [("join", 9)]) (g := gName 9) (tt := tYes) rfl sc_law.nd (pi_list (pv 6)) (blkOk_by (N := N_law) (sc := defScope s_law) (by decide +kernel)) (fun _ _ _ _ _ => pg_name (i := 9) sc_law.nd rfl (Or.inl rfl)) (fun _ _ _ _ _ => pts_nil) (fun _ _ _ _ _ => (pe_ix (ixt (K := K)) (pv 9) pe_int (fun _ _ => rfl)))) pa_nil)) pa_nil))))
        (pss_cut (ps_if (PW.pt (pw_or (pt_not (pt_val (pe_c C_law_same hr (by decide) rfl (pa_cons (pe_cX takes0 Cbest_join hr (by decide) rfl (pa_cons (pv 3) (pa_cons (pv 4) (pa_cons (pv 5) pa_nil)))) (pa_cons (pv 7) pa_nil))))) (pw_or1 (pt_cmpR (op_neD (hd_of hr (by decide))) (pe_cX takes0 Cbest_join hr (by decide) rfl (pa_cons (pv 3) (pa_cons (pv 4) (pa_cons (pv 5) pa_nil)))) (pv 7) (nomark _)))))
          (pss_one (ps_ret pe_bl))
          pss_nil)
        (pss_cut (ps_if (PW.pt (pw_or (pt_not (pt_val (pe_c C_law_same hr (by decide) rfl (pa_cons (pe_cX takes0 Cworst_join hr (by decide) rfl (pa_cons (pv 3) (pa_cons (pv 4) (pa_cons (pv 5) pa_nil)))) (pa_cons (pv 8) pa_nil))))) (pw_or1 (pt_cmpR (op_neD (hd_of hr (by decide))) (pe_cX takes0 Cworst_join hr (by decide) rfl (pa_cons (pv 3) (pa_cons (pv 4) (pa_cons (pv 5) pa_nil)))) (pv 8) (nomark _)))))
          (pss_one (ps_ret pe_bl))
          pss_nil)
        (pss_one (ps_if (pt_not (pt_val (pe_c C_law_refused_right hr (by decide) rfl (pa_cons (pv 1) (pa_cons (pv 3) (pa_cons (pv 4) pa_nil))))))
          (pss_one (ps_ret pe_bl))
          pss_nil))))))))))))
      (pss_one (ps_ret (pe_cmpR (op_eqD (hd_of hr (by decide))) (pe_cX takes0 Cbest_join hr (by decide) rfl (pa_cons (pe_tup (pa_cons (pe_tup (pa_cons pe_str pa_nil)) (pa_cons (pe_tup pa_nil) pa_nil))) (pa_cons (pe_tup (pa_cons (pe_tup (pa_cons pe_str pa_nil)) (pa_cons (pe_tup pa_nil) pa_nil))) (pa_cons pe_int pa_nil)))) (pe_tup (pa_cons pe_int (pa_cons pe_str (pa_cons pe_str pa_nil)))) (nomark _)))))), ?_⟩
    refine ⟨_, rfl, a0, ns, rfl, hS, hl, hb, fun H0 d S0 d0 D0 => ?_⟩
    refine ⟨fun σ' H' => Tabs [(Pb, qB), (Pw, qW)] H', ?_, fun σ' H' hT' => ?_⟩
    · refine ⟨4, rfl, by decide, by decide, for_range (lo := 0) (n := (4 : Int).toNat) (fun i σ' H' => (∃ x2 x3 x4 x5 x6 x7 x8 x9, σ' = [some (.ref a0), some (.ref d), x2, x3, x4, x5, x6, x7, x8, x9]) ∧ SeedAt H' d (3000 * i) ∧ Tabs [(Pb, qB), (Pw, qW)] H') ⟨⟨_, _, _, _, _, _, _, _, rfl⟩, D0, LamX.Tabs.ext hT S0⟩ (fun i σ' H' hi hP => ?_) (fun σ' H' hP => hP.2.2)⟩
      obtain ⟨⟨x2, x3, x4, x5, x6, x7, x8, x9, rfl⟩, D1, hT1⟩ := hP
      have hi : i < 4 := hi
      have pick : ∀ {v : V}, v ∈ [V.int 30, .int 30, .int 12, .int 5] → ∃ m : Nat, v = .int m ∧ 1 ≤ m ∧ m ≤ 30 := fun mv => by
        simp only [List.mem_cons, List.not_mem_nil, or_false] at mv
        rcases mv with e | e | e | e
        · exact ⟨30, e, by omega, by omega⟩
        · exact ⟨30, e, by omega, by omega⟩
        · exact ⟨12, e, by omega, by omega⟩
        · exact ⟨5, e, by omega, by omega⟩
      -- one
      refine ⟨_, rfl, (by show 4 ≤ sizeLine; decide), fun p np => ?_⟩
      obtain ⟨v, hv, mv⟩ := atI_in (xs := [V.int 30, .int 30, .int 12, .int 5]) (i := 0 + (i : Int)) (by omega) (by simpa using (by omega : (0 : Int) + (i : Int) < 4))
      obtain ⟨most, rfl, m1, m30⟩ := pick mv
      refine ⟨_, rfl, p, _, 0 + (i : Int), _, rfl, rfl, SqL.of upd_same, hv, Nat.zero_le _, fun p2 np2 => ?_⟩
      have Dp := (D1.new (o := .lst [.int 30, .int 30, .int 12, .int 5]) np)
      have hTp := LamX.Tabs.ext hT1 (same_new (o := .lst []) (same_new (o := .lst [.int 30, .int 30, .int 12, .int 5]) (Same.refl H') np) np2)
      refine ⟨d, p2, _, most, [], rfl, Dp.new np2, by omega, m1, m30, Dp.nd np2, .inl upd_same, by decide, fun H2 t pl ts it ok un pll hd S2 D2 => ?_⟩
      have hT2 := Far.Tabs.smx hTp (Dp.new np2) S2
      obtain ⟨t, a, b, vs, et, ht, ha, hb', hA⟩ := dt_tree hd
      cases et
      have td : t ≠ d := TupAt.nd (.inl ht) D2
      have ad : a ≠ d := ha.nd D2
      -- other
      refine ⟨_, rfl, (by show 4 ≤ sizeLine; decide), fun p3 np3 => ?_⟩
      refine ⟨_, rfl, p3, _, 0 + (i : Int), _, rfl, rfl, SqL.of upd_same, hv, ?_⟩
      have W3 := same_new (o := .lst [.int 30, .int 30, .int 12, .int 5]) (Same.refl H2) np3
      have D3 := D2.same W3
      have hT3 := LamX.Tabs.ext hT2 W3
      refine ⟨_, rfl, t, _, 0, .ref a, rfl, rfl, SqT.of (W3 _ _ ht), atI_nat (j := 0) rfl, ?_⟩
      refine ⟨d, a, _, most, pl, rfl, D3, by omega, m1, m30, ad, .inr (ha.same W3), by omega, fun H4 t' pl' ts' it' ok' un' pll' hd' S4 D4 => ?_⟩
      have hT4 := Far.Tabs.smx hT3 D3 S4
      have hd4 := Dt.keep ((TK.of W3).trans (D3.tk S4)) hd
      have F1 : Fine pl ts := ⟨it, ok, by omega⟩
      have F2 : Fine pl' ts' := ⟨it', ok', by omega⟩
      have dis : ∀ y ∈ pl, y ∉ pl' := fun y h1 h2 => un' y h2 h1
      -- length
      refine ⟨_, rfl, d, _, 9, rfl, D4, by omega, by decide, by decide, fun H6 r6 r60 r61 S6 D6 => ⟨_, _, rfl, rfl, ?_⟩⟩
      refine ⟨_, rfl, _, _, rfl, rfl, ⟨by decide, by decide, by decide⟩, d, _, _, rfl, D6, by omega, by decide, by decide, fun H7 r7 r70 r71 S7 D7 => ⟨_, _, rfl, rfl, ?_⟩⟩
      refine ⟨(by show 3 ≤ sizeLine; decide), fun p7 np7 => ?_⟩
      refine ⟨_, rfl, d, _, 3, rfl, D7.new np7, by omega, by decide, by decide, fun H8 r8 r80 r81 S8 D8 => ?_⟩
      have hp8 := S8 p7 _ (D7.nd np7) upd_same
      obtain ⟨v, hv8, mv⟩ := atI_in (xs := [V.int 1, .int (1 + r6), .int (1 + r7)]) r80 (by simpa using r81)
      rw [e6] at r71
      obtain ⟨k, rfl, k1, k2⟩ : ∃ k : Int, v = .int k ∧ 1 ≤ k ∧ k ≤ 1000000 := by
        simp only [List.mem_cons, List.not_mem_nil, or_false] at mv
        rcases mv with e | e | e
        · exact ⟨_, e, by omega, by omega⟩
        · exact ⟨_, e, by omega, by omega⟩
        · exact ⟨_, e, by omega, by omega⟩
      refine ⟨p7, _, r8, _, rfl, rfl, SqL.of hp8, hv8, ?_⟩
      have SX8 : SmX d H4 H8 := ((S6.trans S7).new np7).trans S8
      have hT8 := Far.Tabs.smx (LamX.Tabs.ext (Far.Tabs.smx (Far.Tabs.smx hT4 D4 S6) D6 S7) (same_new (o := .lst [V.int 1, .int (1 + r6), .int (1 + r7)]) (Same.refl H7) np7)) (D7.new np7) S8
      have hd8 := Dt.keep (D4.tk SX8) hd4
      have hd8' := Dt.keep (D4.tk SX8) hd'
      -- joins
      refine ⟨_, rfl, _, rfl, _, rfl, .ref t, .ref _, pl, pl', ts, ts', k, rfl, hd8, hd8', F1, F2, by omega, by omega, fun H9 q9 ws S9 nq9 hq9 hW => ?_⟩
      have tl := it.len
      have tl' := it'.len
      have ne : pl ≠ [] := fun z => by rw [z] at tl; simp at tl
      have ne' : pl' ≠ [] := fun z => by rw [z] at tl'; simp at tl'
      have jl : (joinsOf pl pl' ts ts' k pl).length ≤ 900 := by
        rw [joinsOf_len]
        exact Nat.mul_le_mul (show pl.length ≤ 30 by omega) (show pl'.length ≤ 30 by omega)
      have wl := DtAll.len hW
      rw [List.length_map] at wl
      have j0 : 0 < (joinsOf pl pl' ts ts' k pl).length := by
        rw [joinsOf_len]
        exact Nat.mul_pos (List.length_pos_iff.mpr ne) (List.length_pos_iff.mpr ne')
      have jn : ∀ x ∈ joinsOf pl pl' ts ts' k pl, NameOk x.2.1 ∧ NameOk x.2.2 := fun x hx => ⟨ok _ (joins_names hx).1, ok' _ (joins_names hx).2⟩
      have sh := shaped_tris jn
      have hT9 := LamX.Tabs.ext hT8 S9
      have hd9 := Dt.keep (TK.of S9) hd8
      have hd9' := Dt.keep (TK.of S9) hd8'
      have D9 := D8.same S9
      have pos1 : 0 < most + 1 := by omega
      obtain ⟨t', a', b', vs', et, ht', ha', hb'', hA'⟩ := dt_tree hd9'
      cases et
      obtain ⟨t1, a1, b1, vs1, et, ht9, ha9, hb9, hA9⟩ := dt_tree hd9
      cases et
      refine ⟨fun σ' H' => σ' = [some (.ref a0), some (.ref d), some (.int (0 + (i : Int))), some (.ref t), some (.ref t'), some (.int k), some (.ref q9), x7, x8, x9] ∧ Same H9 H', ?_, fun σ' H10 hM => ?_⟩
      · refine ⟨_, rfl, t, _, 0, .ref a1, rfl, rfl, SqT.of ht9, atI_nat (j := 0) rfl, a1, _, rfl, .inr ha9.sq, ?_⟩
        refine ⟨_, rfl, t', _, 0, .ref a', rfl, rfl, SqT.of ht', atI_nat (j := 0) rfl, a', _, rfl, .inr ha'.sq, ?_⟩
        refine ⟨_, _, rfl, rfl, ?_⟩
        refine ⟨_, _, rfl, rfl, _, rfl, ?_⟩
        refine ite2 (fun z => ?_) (fun z => ?_)
        · refine ⟨_, rfl, _, rfl, _, rfl, _, rfl, .ref t, .ref t', pl, pl', ts, ts', k, rfl, hd9, hd9', F1, F2, by omega, by omega, dis, k1, k2, fun H10 q10 ws' S10 nq10 hq10 hW' => ?_⟩
          refine ⟨_, _, .lst (SqL.of (S10 _ _ hq9)) (DtAll.dp (DtAll.keep (TK.of S10) hW)), .lst (SqL.of hq10) (DtAll.dp hW'), sh, sh, ?_⟩
          rw [eqv_same sh]
          exact ⟨_, rfl, iteF ⟨rfl, S10⟩⟩
        · exact ⟨rfl, Same.refl _⟩
      obtain ⟨rfl, S10⟩ := hM
      generalize hps : joinsOf pl pl' ts ts' k pl = ps at *
      have hq10 := S10 _ _ hq9
      refine ⟨_, rfl, ?_⟩
      refine ⟨_, rfl, q9, rfl, ⟨_, SqL.of hq10⟩, fun C nC => ?_⟩
      have hW10 := DtAll.keep (TK.of S10) hW
      refine lc_list (K := K) (a := q9) (xs := ws) (fun i H' => Same H10 H' ∧ H' C = some (.lst (((ps.take i).map (·.1)).map V.int))) ⟨same_new (Same.refl H10) nC, upd_same⟩ (fun i H' _ hP => SqL.of (hP.1 _ _ hq10)) (fun i v H' hi hP => ?_) (fun H11 hP => ?_)
      · obtain ⟨sm, hC⟩ := hP
        obtain ⟨dd, hd, hx⟩ := DtAll.get hW10 hi
        rw [List.getElem?_map] at hd
        cases ee : ps[i]? with
        | none => rw [ee] at hd; cases hd
        | some x =>
          rw [ee] at hd
          have ed : dd = triD x := (Option.some.inj hd).symm
          subst ed
          obtain ⟨u2, rfl, hu2⟩ := dt_tri hx
          refine ⟨rfl, _, rfl, u2, _, 0, .int x.1, rfl, rfl, SqT.of (sm _ _ hu2), rfl, _, hC, ?_, same_put sm nC, ?_⟩
          · rw [List.length_map, List.length_map, List.length_take]
            exact sz_lt (by omega)
          · rw [upd_same, List.take_add_one, ee, List.map_append, List.map_append]
            rfl
      obtain ⟨sm, hC⟩ := hP
      rw [wl, List.take_length] at hC
      refine ⟨C, _, rfl, SqL.of hC, by rw [List.length_map]; exact j0, fun m hm hle => ?_⟩
      refine ⟨q9, m, ws, ps, rfl, sm _ _ hq10, DtAll.keep (TK.of sm) hW10, by omega, hm, fun H12 vb xb S12 hfb hvb => ?_⟩
      have hq12 := S12 _ _ (sm _ _ hq10)
      have hW12 := DtAll.keep (TK.of (sm.trans S12)) hW10
      refine ⟨_, rfl, ?_⟩
      refine ⟨_, rfl, q9, rfl, ⟨_, SqL.of hq12⟩, fun C nC => ?_⟩
      refine lc_list (K := K) (a := q9) (xs := ws) (fun i H' => Same H12 H' ∧ H' C = some (.lst (((ps.take i).map (·.1)).map V.int))) ⟨same_new (Same.refl H12) nC, upd_same⟩ (fun i H' _ hP => SqL.of (hP.1 _ _ hq12)) (fun i v H' hi hP => ?_) (fun H13 hP => ?_)
      · obtain ⟨sm2, hC⟩ := hP
        obtain ⟨dd, hd, hx⟩ := DtAll.get hW12 hi
        rw [List.getElem?_map] at hd
        cases ee : ps[i]? with
        | none => rw [ee] at hd; cases hd
        | some x =>
          rw [ee] at hd
          have ed : dd = triD x := (Option.some.inj hd).symm
          subst ed
          obtain ⟨u2, rfl, hu2⟩ := dt_tri hx
          refine ⟨rfl, _, rfl, u2, _, 0, .int x.1, rfl, rfl, SqT.of (sm2 _ _ hu2), rfl, _, hC, ?_, same_put sm2 nC, ?_⟩
          · rw [List.length_map, List.length_map, List.length_take]
            exact sz_lt (by omega)
          · rw [upd_same, List.take_add_one, ee, List.map_append, List.map_append]
            rfl
      obtain ⟨sm2, hC⟩ := hP
      rw [wl, List.take_length] at hC
      refine ⟨C, _, rfl, SqL.of hC, by rw [List.length_map]; exact j0, fun m2 hm2 hle2 => ?_⟩
      refine ⟨q9, m2, ws, ps, rfl, sm2 _ _ hq12, DtAll.keep (TK.of sm2) hW12, by omega, hm2, fun H14 vw xw S14 hfw hvw => ?_⟩
      have S914 : Same H9 H14 := S10.trans (sm.trans (S12.trans (sm2.trans S14)))
      have hvb14 := Dt.keep (TK.of (sm2.trans S14)) hvb
      have noj : ¬ ∃ y ∈ pl, y ∈ pl' := fun ⟨y, h1, h2⟩ => dis y h1 h2
      have xbn : xb ∈ ps := by
        obtain ⟨j, hj, _⟩ := hfb
        exact List.mem_of_getElem? hj
      have xwn : xw ∈ ps := by
        obtain ⟨j, hj, _⟩ := hfw
        exact List.mem_of_getElem? hj
      have shb := tri_shaped (jn _ xbn).1 (jn _ xbn).2
      have shw := tri_shaped (jn _ xwn).1 (jn _ xwn).2
      have exb : ∀ x', FL (joinsOf pl pl' ts ts' k pl) (fun z => id z.1) x' → x' = xb := fun x' h => by
        rw [hps] at h
        exact (fe_fl id (fun _ _ h => h) hfb h hm hle).symm
      have exw : ∀ x', FL (joinsOf pl pl' ts ts' k pl) (fun z => (fun i => -i) z.1) x' → x' = xw := fun x' h => by
        rw [hps] at h
        exact (fe_fl (fun i => -i) (fun a b h => by omega) hfw h hm2 (fun y hy => by have := hle2 y hy; show -m2 ≤ -y; omega)).symm
      have D14 := D9.same S914
      have hT14 := LamX.Tabs.ext hT9 S914
      have hd14 := Dt.keep (TK.of S914) hd9
      have hd14' := Dt.keep (TK.of S914) hd9'
      -- the best of the program
      refine ⟨fun σ' H' => σ' = [some (.ref a0), some (.ref d), some (.int (0 + (i : Int))), some (.ref t), some (.ref t'), some (.int k), some (.ref q9), some vb, some vw, x9] ∧ ExtN H14 H' ∧ Tabs [(Pb, qB), (Pw, qW)] H', ?_, fun σ' H18 hM => ?_⟩
      · refine ⟨_, rfl, _, rfl, _, rfl, .ref t, .ref t', pl, pl', ts, ts', k, rfl, hd14, hd14', ok, by omega, by omega, hT14, fun _ => ⟨F1, F2, fun H15 r x e15 hT15 hfl hr => ?_⟩, fun h => absurd h noj⟩
        cases exb x hfl
        refine ⟨_, rfl, r, vb, triD xb, rfl, hr, Dt.keep (TK.ofN e15) hvb14, tri_plain xb, fun H16 S16 => ⟨_, rfl, iteF ?_⟩⟩
        refine ⟨_, rfl, _, rfl, _, rfl, .ref t, .ref t', pl, pl', ts, ts', k, rfl, Dt.keep (TK.of S16) (Dt.keep (TK.ofN e15) hd14), Dt.keep (TK.of S16) (Dt.keep (TK.ofN e15) hd14'), ok, by omega, by omega, LamX.Tabs.ext hT15 S16, fun _ => ⟨F1, F2, fun H17 r2 x2 e17 hT17 hfl2 hr2 => ?_⟩, fun h => absurd h noj⟩
        cases exb x2 hfl2
        refine ⟨_, rfl, _, _, Dt.dp hr2, Dt.dp (Dt.keep (TK.ofN e17) (Dt.keep (TK.of S16) (Dt.keep (TK.ofN e15) hvb14))), shb, shb, ?_⟩
        rw [eqv_same shb]
        exact ⟨_, rfl, iteF ⟨rfl, (e15.trans (ExtN.of S16)).trans e17, hT17⟩⟩
      obtain ⟨rfl, e0, hT18⟩ := hM
      have hd18 := Dt.keep (TK.ofN e0) hd14
      have hd18' := Dt.keep (TK.ofN e0) hd14'
      have hvw18 := Dt.keep (TK.ofN e0) hvw
      have D18 := D14.ofN e0
      -- the worst
      refine ⟨fun σ' H' => σ' = [some (.ref a0), some (.ref d), some (.int (0 + (i : Int))), some (.ref t), some (.ref t'), some (.int k), some (.ref q9), some vb, some vw, x9] ∧ ExtN H18 H' ∧ Tabs [(Pb, qB), (Pw, qW)] H', ?_, fun σ' H19 hM => ?_⟩
      · refine ⟨_, rfl, _, rfl, _, rfl, .ref t, .ref t', pl, pl', ts, ts', k, rfl, hd18, hd18', ok, by omega, by omega, hT18, fun _ => ⟨F1, F2, fun H15 r x e15 hT15 hfl hr => ?_⟩, fun h => absurd h noj⟩
        cases exw x hfl
        refine ⟨_, rfl, r, vw, triD xw, rfl, hr, Dt.keep (TK.ofN e15) hvw18, tri_plain xw, fun H16 S16 => ⟨_, rfl, iteF ?_⟩⟩
        refine ⟨_, rfl, _, rfl, _, rfl, .ref t, .ref t', pl, pl', ts, ts', k, rfl, Dt.keep (TK.of S16) (Dt.keep (TK.ofN e15) hd18), Dt.keep (TK.of S16) (Dt.keep (TK.ofN e15) hd18'), ok, by omega, by omega, LamX.Tabs.ext hT15 S16, fun _ => ⟨F1, F2, fun H17 r2 x2 e17 hT17 hfl2 hr2 => ?_⟩, fun h => absurd h noj⟩
        cases exw x2 hfl2
        refine ⟨_, rfl, _, _, Dt.dp hr2, Dt.dp (Dt.keep (TK.ofN e17) (Dt.keep (TK.of S16) (Dt.keep (TK.ofN e15) hvw18))), shw, shw, ?_⟩
        rw [eqv_same shw]
        exact ⟨_, rfl, iteF ⟨rfl, (e15.trans (ExtN.of S16)).trans e17, hT17⟩⟩
      obtain ⟨rfl, e1, hT19⟩ := hM
      refine ⟨_, rfl, _, rfl, _, rfl, d, .ref t, .ref t', _, pl, pl', ts, ts', rfl, D18.ofN e1, by omega, Dt.keep (TK.ofN e1) hd18, Dt.keep (TK.ofN e1) hd18', ok, ne, ne', by omega, by omega, by omega, hT19, fun H20 S20 D20 => ⟨_, rfl, iteF ⟨⟨_, _, _, _, _, _, _, _, rfl⟩, D20.mono (by omega), Far.Tabs.smx hT19 (D18.ofN e1) S20⟩⟩⟩
    · -- the end
      refine ⟨(by show 1 ≤ sizeLine; decide), fun p1 np1 => ⟨Nat.zero_le _, fun p2 np2 => ⟨(by show 2 ≤ sizeLine; decide), fun p3 np3 => ?_⟩⟩⟩
      have W3 := same_new (o := .tup [.ref p1, .ref p2]) (same_new (o := .tup []) (same_new (o := .tup [.str (Str.ofString "a")]) (Same.refl H') np1) np2) np3
      have h3 : Dt (upd (upd (upd H' p1 (.tup [.str (Str.ofString "a")])) p2 (.tup [])) p3 (.tup [.ref p1, .ref p2])) (.ref p3) (treeD [[97]] []) := .tup upd_same (.cons (.tup (((TK.new np2).trans (TK.new np3)).tup _ _ upd_same) (.cons (.str _) .nil)) (.cons (.tup ((TK.new np3).tup _ _ upd_same) .nil) .nil))
      generalize upd (upd (upd H' p1 (.tup [.str (Str.ofString "a")])) p2 (.tup [])) p3 (.tup [.ref p1, .ref p2]) = H3 at h3 W3
      refine ⟨(by show 1 ≤ sizeLine; decide), fun p4 np4 => ⟨Nat.zero_le _, fun p5 np5 => ⟨(by show 2 ≤ sizeLine; decide), fun p6 np6 => ?_⟩⟩⟩
      have W6 := same_new (o := .tup [.ref p4, .ref p5]) (same_new (o := .tup []) (same_new (o := .tup [.str (Str.ofString "b")]) (Same.refl H3) np4) np5) np6
      have h6 : Dt (upd (upd (upd H3 p4 (.tup [.str (Str.ofString "b")])) p5 (.tup [])) p6 (.tup [.ref p4, .ref p5])) (.ref p6) (treeD [[98]] []) := .tup upd_same (.cons (.tup (((TK.new np5).trans (TK.new np6)).tup _ _ upd_same) (.cons (.str _) .nil)) (.cons (.tup ((TK.new np6).tup _ _ upd_same) .nil) .nil))
      generalize upd (upd (upd H3 p4 (.tup [.str (Str.ofString "b")])) p5 (.tup [])) p6 (.tup [.ref p4, .ref p5]) = H6 at h6 W6
      have oka : NameOk [97] := ⟨by decide, by decide, by decide⟩
      refine ⟨.ref p3, .ref p6, [[97]], [[98]], [], [], 7, rfl, Dt.keep (TK.of W6) h3, h6, (fun y hy => by rw [List.mem_singleton.mp hy]; exact oka), by decide, by decide, LamX.Tabs.ext (LamX.Tabs.ext hT' W3) W6, fun _ => ⟨fine_at 97 (by decide) (by decide), fine_at 98 (by decide) (by decide), fun H7 r x e7 hT7 hfl hr7 => ?_⟩, fun ⟨y, h1, h2⟩ => by rw [List.mem_singleton.mp h1] at h2; exact absurd h2 (by decide)⟩
      have ej : joinsOf [[97]] [[98]] [] [] 7 [[97]] = [((7 : Int), [97], [98])] := by
        show [joinT [[97]] [[98]] [] [] 7 [97] [98]] = _
        unfold joinT insN
        rw [List.map_singleton, List.map_singleton, rch_one 97 (by decide) (by decide), rch_one 98 (by decide) (by decide)]
        rfl
      have ex : x = ((7 : Int), [97], [98]) := by
        rw [ej] at hfl
        obtain ⟨j, hj, _⟩ := hfl
        exact List.mem_singleton.mp (List.mem_of_getElem? hj)
      subst ex
      refine ⟨(by show 3 ≤ sizeLine; decide), fun g ng => ?_⟩
      refine ⟨_, triD ((7 : Int), [97], [98]), Dt.dp (Dt.keep (TK.new ng) hr7), Dt.dp (.tup upd_same (.cons (.int _) (.cons (.str _) (.cons (.str _) .nil)))), by decide +kernel, by decide +kernel, ?_⟩
      rw [show (triD ((7 : Int), [97], [98])).eqv (triD ((7 : Int), [97], [98])) = true by decide +kernel]
      exact q _
end
end Far

namespace Far
open PySem PySem.Spec PyProof.Rows L2
theorem same_none {P : Program} {w : World} {K : PySem.W.Frag} {mg : Str → Option Value} {base : Heap} {f : Addr} {fd : FuncData} : FnOk P w K mg base CX0 1 f fd ["found", "due"] (spSame 0) :=
  ⟨fun vs H Q E h => by obtain ⟨u, v, d, rfl, _⟩ := h; rfl, fun A outer s H args us vs Q E hr e b v h => by obtain ⟨_, _, _, _, _, _, hp, _⟩ := h; cases hp⟩
theorem kit_own {K : PySem.W.Frag} {t : Value} {C : Addr} {b : Bool} {cd : ClassData} (ne : (t == Value.ref C) = false) (h1 : PySem.W.clsIn K C = some cd) (h2 : PySem.W.typeIn K (.ref C) = some (.type "type")) (h3 : PySem.W.subIn K t (.ref C) = some b) : PySem.W.kitOne K t (.ref C) = some b := by
  unfold PySem.W.kitOne PySem.W.kitCls
  rw [if_neg (by rw [ne]; decide)]
  show (if ((PySem.W.clsIn K C).isSome && PySem.W.typeIn K (.ref C) == some (.type "type")) = true then PySem.W.subIn K t (.ref C) else none) = some b
  rw [if_pos (by rw [h1, h2]; rfl)]
  exact h3
theorem kit_ve {K : PySem.W.Frag} {a : Addr} (h : PySem.W.subIn K (.ref a) (.type "ValueError") = some true) : PySem.W.kitOne K (.ref a) (.type "ValueError") = some true := by
  unfold PySem.W.kitOne PySem.W.kitCls
  rw [if_neg (by show ¬ (Value.ref a == Value.type "ValueError") = true; intro z; cases (eq_of_beq z))]
  show (if PySem.W.kitMeta "ValueError" = true then PySem.W.subIn K (.ref a) (.type "ValueError") else none) = some true
  rw [if_pos (by decide +kernel)]
  exact h
theorem exm_own {K : PySem.W.Frag} {t : Value} {C : Addr} {b : Bool} {cd : ClassData} (h0 : PySem.W.subIn K (.ref C) (.type "BaseException") = some true) (h1 : PySem.W.clsIn K C = some cd) (h2 : PySem.W.typeIn K (.ref C) = some (.type "type")) (h3 : PySem.W.subIn K t (.ref C) = some b) : PySem.W.exmOne K t (.ref C) = some b := by
  unfold PySem.W.exmOne PySem.W.kitCls
  rw [if_pos (by rw [h0]; rfl)]
  show (if ((PySem.W.clsIn K C).isSome && PySem.W.typeIn K (.ref C) == some (.type "type")) = true then PySem.W.subIn K t (.ref C) else none) = some b
  rw [if_pos (by rw [h1, h2]; rfl)]
  exact h3
open LamX in
/-- the end where two defs' code objects have tables -/
theorem walk_nm2 {l : PySem.W.OpenLaw} {q : Program} {loose : List Str} {XP : (Str → Option Value) → Heap → Prop} {YP : World → Heap → Prop} {d dN dM : DefRec} {K : Params → PySem.W.Frag} {k : Nat} {x nm nn : Str} (room : Room k callerA) (most : l.most = some 63) (nodef : d.params.defaults = [])
    (found : (recsOf q).find? (fun e => e.name == nm) = some dN) (found2 : (recsOf q).find? (fun e => e.name == nn) = some dM) (inK : ∀ w h, YP w h → (K w.params).In h)
    (F : ∀ (w : World) (mg : Str → Option Value) (fa : Addr) (h : Heap), (K w.params).In h → h.Ns mainGlobals mg → mg d.name = some (.ref fa) → (∀ c P, PySem.W.tabIn (K w.params) nm = some (c, P) → PySem.W.CodeHd h c P ∧ h.get? P = some (PySem.W.tabObj #[])) → (∀ c P, PySem.W.tabIn (K w.params) nn = some (c, P) → PySem.W.CodeHd h c P ∧ h.get? P = some (PySem.W.tabObj #[])) → LawAtS l w (K w.params) L2.CX0 k 63 x mg fa h) :
    PySem.W.WalkO q loose XP YP l.row.toRowW d [] (fun f vs => PySem.call f vs) := by
  refine Att.attach_callB most nodef fun w sA sB mg mb fL oL pmL cdL docL aL vsL nsL G Y hoL hdL hcL hmgL hobj hints hlen hbits hgens => ?_
  have KX := inK w _ Y
  obtain ⟨fdL, cs, sp, tEmpty, tNone, tCode, bnd, told, okF⟩ := F w mg fL _ KX G.T.g hmgL (fun c P e => PySem.W.tab_of G.T KX found e) fun c P e => PySem.W.tab_of G.T KX found2 e
  refine law_callTs KX G.T.g G.T.b G.T.builtins G.T.nolimit hgens tEmpty tNone tCode G.T.bmain hobj hints (Nat.le_trans hlen (by decide)) room okF bnd (fun H hH hS => told H aL nsL hlen hbits hH hS) ?_
  intro H e s' z
  exact z
theorem all_mk {l : PySem.W.OpenLaw} {w : World} {K : PySem.W.Frag} {h : Heap} {mg : Str → Option Value} {fa f1 f2 f3 f4 f5 f6 f7 f8 f9 f10 f11 f12 f13 f14 f15 f16 f17 f18 f19 f20 f21 : Addr} (X : K.In h) (G : h.Ns mainGlobals mg) (hfa : mg "law" = some (.ref fa))
    {od1 od2 od3 od4 od5 od6 od7 od8 od9 od10 od11 od12 od13 od14 od15 od16 od17 od18 od19 od20 od21 an1 an2 an3 an4 an5 an6 an7 an8 an9 an10 an11 an12 an13 an14 an15 an16 an17 an18 an19 an20 an21 : Option Addr} {sl1 sl2 sl3 sl4 sl5 sl6 sl7 sl8 sl9 sl10 sl11 sl12 sl13 sl14 sl15 sl16 sl17 sl18 sl19 sl20 sl21 : Array (Option Value)} {oc1 oc2 oc3 oc4 oc5 oc6 oc7 oc8 oc9 oc10 oc11 oc12 oc13 oc14 oc15 oc16 oc17 oc18 oc19 oc20 oc21 kV1 kV2 kV3 kV4 kV5 kV6 kV7 kV8 kV9 kV10 kV11 kV12 kV13 kV14 kV15 kV16 kV17 kV18 kV19 kV20 kV21 dc1 dc2 dc3 dc4 dc5 dc6 dc7 dc8 dc9 dc10 dc11 dc12 dc13 dc14 dc15 dc16 dc17 dc18 dc19 dc20 dc21 pm1 pm2 pm3 pm4 pm5 pm6 pm7 pm8 pm9 pm10 pm11 pm12 pm13 pm14 pm15 pm16 pm17 pm18 pm19 pm20 pm21 cd1 cd2 cd3 cd4 cd5 cd6 cd7 cd8 cd9 cd10 cd11 cd12 cd15 cd16 cd17 cd18 cd19 cd20 cd21 ct1 ct2 ct3 ct4 ct5 ct6 ct7 ct8 ct9 ct10 ct11 ct12 ct13 ct14 ct15 ct16 ct17 ct18 ct19 ct20 ct21 : Value}
    {aN aA aJ aT aF : Addr} {clN clA clJ clT clF : ClassData} {fNI NN : Addr} {nmN qN : Str} {bsN bmN subN : List Value} {snN : List Str} {abN : Bool} {colN : Option Bool} {ddN odNI anNI : Option Addr} {jN0 jN1 jN2 jN3 jN5 : Option Value} {ocNI kVNI dcNI pmNI cdNI ctNI : Value} {slNI : Array (Option Value)}
    {cB PtB : Addr} {eB : Value} {ddB : Option Addr} {vsB : Array Value} {stB : Array (Option Value)} (kcB : K.lookup cB = some ⟨eB, ddB, .fields vsB, stB⟩) (vPB : (vsB[11]? : Option Value) = some (.ref PtB)) (nTB : K.lookup PtB = none) (tabB : ∀ c P, PySem.W.tabIn K "best_join" = some (c, P) → PySem.W.CodeHd h c P ∧ h.get? P = some (PySem.W.tabObj #[]))
    {cW PtW : Addr} {eW : Value} {ddW : Option Addr} {vsW : Array Value} {stW : Array (Option Value)} (kcW : K.lookup cW = some ⟨eW, ddW, .fields vsW, stW⟩) (vPW : (vsW[11]? : Option Value) = some (.ref PtW)) (nTW : K.lookup PtW = none) (tabW : ∀ c P, PySem.W.tabIn K "worst_join" = some (c, P) → PySem.W.CodeHd h c P ∧ h.get? P = some (PySem.W.tabObj #[]))
    (neT : PtB ≠ PtW)
    (a1 : PySem.W.nsIn K mainGlobals "_law_deck" = some (some (.ref f1))) (l1 : K.lookup f1 = some ⟨oc1, od1, .func (PySem.W.fnOf "_law_deck" "_law_deck" (defArgs s_law_deck) (defBody s_law_deck) (defScope s_law_deck) .none kV1 dc1 pm1 an1 cd1 ct1), sl1⟩) (c1 : PySem.W.codeIn K cd1 "_law_deck" = true) (k1 : PySem.W.keepIn K (.ref f1) = true)
    (a2 : PySem.W.nsIn K mainGlobals "_law_draw" = some (some (.ref f2))) (l2 : K.lookup f2 = some ⟨oc2, od2, .func (PySem.W.fnOf "_law_draw" "_law_draw" (defArgs s_law_draw) (defBody s_law_draw) (defScope s_law_draw) .none kV2 dc2 pm2 an2 cd2 ct2), sl2⟩) (c2 : PySem.W.codeIn K cd2 "_law_draw" = true) (k2 : PySem.W.keepIn K (.ref f2) = true)
    (a3 : PySem.W.nsIn K mainGlobals "_law_same" = some (some (.ref f3))) (l3 : K.lookup f3 = some ⟨oc3, od3, .func (PySem.W.fnOf "_law_same" "_law_same" (defArgs s_law_same) (defBody s_law_same) (defScope s_law_same) .none kV3 dc3 pm3 an3 cd3 ct3), sl3⟩) (c3 : PySem.W.codeIn K cd3 "_law_same" = true) (k3 : PySem.W.keepIn K (.ref f3) = true)
    (a4 : PySem.W.nsIn K mainGlobals "_law_names" = some (some (.ref f4))) (l4 : K.lookup f4 = some ⟨oc4, od4, .func (PySem.W.fnOf "_law_names" "_law_names" (defArgs s_law_names) (defBody s_law_names) (defScope s_law_names) .none kV4 dc4 pm4 an4 cd4 ct4), sl4⟩) (c4 : PySem.W.codeIn K cd4 "_law_names" = true) (k4 : PySem.W.keepIn K (.ref f4) = true)
    (a5 : PySem.W.nsIn K mainGlobals "_law_tree" = some (some (.ref f5))) (l5 : K.lookup f5 = some ⟨oc5, od5, .func (PySem.W.fnOf "_law_tree" "_law_tree" (defArgs s_law_tree) (defBody s_law_tree) (defScope s_law_tree) .none kV5 dc5 pm5 an5 cd5 ct5), sl5⟩) (c5 : PySem.W.codeIn K cd5 "_law_tree" = true) (k5 : PySem.W.keepIn K (.ref f5) = true)
    (a6 : PySem.W.nsIn K mainGlobals "_ties_of_each" = some (some (.ref f6))) (l6 : K.lookup f6 = some ⟨oc6, od6, .func (PySem.W.fnOf "_ties_of_each" "_ties_of_each" (defArgs s_ties_of_each) (defBody s_ties_of_each) (defScope s_ties_of_each) .none kV6 dc6 pm6 an6 cd6 ct6), sl6⟩) (c6 : PySem.W.codeIn K cd6 "_ties_of_each" = true) (k6 : PySem.W.keepIn K (.ref f6) = true)
    (a7 : PySem.W.nsIn K mainGlobals "walk_from" = some (some (.ref f7))) (l7 : K.lookup f7 = some ⟨oc7, od7, .func (PySem.W.fnOf "walk_from" "walk_from" (defArgs s_walk_from) (defBody s_walk_from) (defScope s_walk_from) .none kV7 dc7 pm7 an7 cd7 ct7), sl7⟩) (c7 : PySem.W.codeIn K cd7 "walk_from" = true) (k7 : PySem.W.keepIn K (.ref f7) = true)
    (a8 : PySem.W.nsIn K mainGlobals "check_places" = some (some (.ref f8))) (l8 : K.lookup f8 = some ⟨oc8, od8, .func (PySem.W.fnOf "check_places" "check_places" (defArgs s_check_places) (defBody s_check_places) (defScope s_check_places) .none kV8 dc8 pm8 an8 cd8 ct8), sl8⟩) (c8 : PySem.W.codeIn K cd8 "check_places" = true) (k8 : PySem.W.keepIn K (.ref f8) = true)
    (a9 : PySem.W.nsIn K mainGlobals "lengths_from" = some (some (.ref f9))) (l9 : K.lookup f9 = some ⟨oc9, od9, .func (PySem.W.fnOf "lengths_from" "lengths_from" (defArgs s_lengths_from) (defBody s_lengths_from) (defScope s_lengths_from) .none kV9 dc9 pm9 an9 cd9 ct9), sl9⟩) (c9 : PySem.W.codeIn K cd9 "lengths_from" = true) (k9 : PySem.W.keepIn K (.ref f9) = true)
    (a10 : PySem.W.nsIn K mainGlobals "farthest_of_each" = some (some (.ref f10))) (l10 : K.lookup f10 = some ⟨oc10, od10, .func (PySem.W.fnOf "farthest_of_each" "farthest_of_each" (defArgs s_farthest_of_each) (defBody s_farthest_of_each) (defScope s_farthest_of_each) .none kV10 dc10 pm10 an10 cd10 ct10), sl10⟩) (c10 : PySem.W.codeIn K cd10 "farthest_of_each" = true) (k10 : PySem.W.keepIn K (.ref f10) = true)
    (a11 : PySem.W.nsIn K mainGlobals "_check_unlike" = some (some (.ref f11))) (l11 : K.lookup f11 = some ⟨oc11, od11, .func (PySem.W.fnOf "_check_unlike" "_check_unlike" (defArgs s_check_unlike) (defBody s_check_unlike) (defScope s_check_unlike) .none kV11 dc11 pm11 an11 cd11 ct11), sl11⟩) (c11 : PySem.W.codeIn K cd11 "_check_unlike" = true) (k11 : PySem.W.keepIn K (.ref f11) = true)
    (a12 : PySem.W.nsIn K mainGlobals "_all_joins" = some (some (.ref f12))) (l12 : K.lookup f12 = some ⟨oc12, od12, .func (PySem.W.fnOf "_all_joins" "_all_joins" (defArgs s_all_joins) (defBody s_all_joins) (defScope s_all_joins) .none kV12 dc12 pm12 an12 cd12 ct12), sl12⟩) (c12 : PySem.W.codeIn K cd12 "_all_joins" = true) (k12 : PySem.W.keepIn K (.ref f12) = true)
    (a13 : PySem.W.nsIn K mainGlobals "best_join" = some (some (.ref f13))) (l13 : K.lookup f13 = some ⟨oc13, od13, .func (PySem.W.fnOf "best_join" "best_join" (defArgs s_best_join) (defBody s_best_join) (defScope s_best_join) .none kV13 dc13 pm13 an13 (.ref cB) ct13), sl13⟩) (c13 : PySem.W.codeIn K (.ref cB) "best_join" = true) (k13 : PySem.W.keepIn K (.ref f13) = true)
    (a14 : PySem.W.nsIn K mainGlobals "worst_join" = some (some (.ref f14))) (l14 : K.lookup f14 = some ⟨oc14, od14, .func (PySem.W.fnOf "worst_join" "worst_join" (defArgs s_worst_join) (defBody s_worst_join) (defScope s_worst_join) .none kV14 dc14 pm14 an14 (.ref cW) ct14), sl14⟩) (c14 : PySem.W.codeIn K (.ref cW) "worst_join" = true) (k14 : PySem.W.keepIn K (.ref f14) = true)
    (a15 : PySem.W.nsIn K mainGlobals "_law_lengths" = some (some (.ref f15))) (l15 : K.lookup f15 = some ⟨oc15, od15, .func (PySem.W.fnOf "_law_lengths" "_law_lengths" (defArgs s_law_lengths) (defBody s_law_lengths) (defScope s_law_lengths) .none kV15 dc15 pm15 an15 cd15 ct15), sl15⟩) (c15 : PySem.W.codeIn K cd15 "_law_lengths" = true) (k15 : PySem.W.keepIn K (.ref f15) = true)
    (a16 : PySem.W.nsIn K mainGlobals "_law_joins" = some (some (.ref f16))) (l16 : K.lookup f16 = some ⟨oc16, od16, .func (PySem.W.fnOf "_law_joins" "_law_joins" (defArgs s_law_joins) (defBody s_law_joins) (defScope s_law_joins) .none kV16 dc16 pm16 an16 cd16 ct16), sl16⟩) (c16 : PySem.W.codeIn K cd16 "_law_joins" = true) (k16 : PySem.W.keepIn K (.ref f16) = true)
    (a17 : PySem.W.nsIn K mainGlobals "_law_by_trial" = some (some (.ref f17))) (l17 : K.lookup f17 = some ⟨oc17, od17, .func (PySem.W.fnOf "_law_by_trial" "_law_by_trial" (defArgs s_law_by_trial) (defBody s_law_by_trial) (defScope s_law_by_trial) .none kV17 dc17 pm17 an17 cd17 ct17), sl17⟩) (c17 : PySem.W.codeIn K cd17 "_law_by_trial" = true) (k17 : PySem.W.keepIn K (.ref f17) = true)
    (a18 : PySem.W.nsIn K mainGlobals "_law_first" = some (some (.ref f18))) (l18 : K.lookup f18 = some ⟨oc18, od18, .func (PySem.W.fnOf "_law_first" "_law_first" (defArgs s_law_first) (defBody s_law_first) (defScope s_law_first) .none kV18 dc18 pm18 an18 cd18 ct18), sl18⟩) (c18 : PySem.W.codeIn K cd18 "_law_first" = true) (k18 : PySem.W.keepIn K (.ref f18) = true)
    (a19 : PySem.W.nsIn K mainGlobals "_law_caught" = some (some (.ref f19))) (l19 : K.lookup f19 = some ⟨oc19, od19, .func (PySem.W.fnOf "_law_caught" "_law_caught" (defArgs s_law_caught) (defBody s_law_caught) (defScope s_law_caught) .none kV19 dc19 pm19 an19 cd19 ct19), sl19⟩) (c19 : PySem.W.codeIn K cd19 "_law_caught" = true) (k19 : PySem.W.keepIn K (.ref f19) = true)
    (a20 : PySem.W.nsIn K mainGlobals "_law_refused_right" = some (some (.ref f20))) (l20 : K.lookup f20 = some ⟨oc20, od20, .func (PySem.W.fnOf "_law_refused_right" "_law_refused_right" (defArgs s_law_refused_right) (defBody s_law_refused_right) (defScope s_law_refused_right) .none kV20 dc20 pm20 an20 cd20 ct20), sl20⟩) (c20 : PySem.W.codeIn K cd20 "_law_refused_right" = true) (k20 : PySem.W.keepIn K (.ref f20) = true)
    (a21 : PySem.W.nsIn K mainGlobals "law" = some (some (.ref f21))) (l21 : K.lookup f21 = some ⟨oc21, od21, .func (PySem.W.fnOf "law" "law" (defArgs s_law) (defBody s_law) (defScope s_law) .none kV21 dc21 pm21 an21 cd21 ct21), sl21⟩) (c21 : PySem.W.codeIn K cd21 "law" = true) (k21 : PySem.W.keepIn K (.ref f21) = true)
    (zValueError : PySem.W.nsIn K mainGlobals "ValueError" = some none)
    (zabs : PySem.W.nsIn K mainGlobals "abs" = some none)
    (zbool : PySem.W.nsIn K mainGlobals "bool" = some none)
    (zenumerate : PySem.W.nsIn K mainGlobals "enumerate" = some none)
    (zint : PySem.W.nsIn K mainGlobals "int" = some none)
    (zisinstance : PySem.W.nsIn K mainGlobals "isinstance" = some none)
    (zlen : PySem.W.nsIn K mainGlobals "len" = some none)
    (zlist : PySem.W.nsIn K mainGlobals "list" = some none)
    (zmax : PySem.W.nsIn K mainGlobals "max" = some none)
    (zmin : PySem.W.nsIn K mainGlobals "min" = some none)
    (zrange : PySem.W.nsIn K mainGlobals "range" = some none)
    (zstr : PySem.W.nsIn K mainGlobals "str" = some none)
    (ztuple : PySem.W.nsIn K mainGlobals "tuple" = some none)
    (zzip : PySem.W.nsIn K mainGlobals "zip" = some none)
    (gNoPlace : PySem.W.nsIn K mainGlobals "NoPlace" = some (some (.ref aN)))
    (cN : PySem.W.clsIn K aN = some clN)
    (yN : PySem.W.typeIn K (.ref aN) = some (.type "type"))
    (gNoAsk : PySem.W.nsIn K mainGlobals "NoAsk" = some (some (.ref aA)))
    (cA : PySem.W.clsIn K aA = some clA)
    (yA : PySem.W.typeIn K (.ref aA) = some (.type "type"))
    (gNoJoin : PySem.W.nsIn K mainGlobals "NoJoin" = some (some (.ref aJ)))
    (cJ : PySem.W.clsIn K aJ = some clJ)
    (yJ : PySem.W.typeIn K (.ref aJ) = some (.type "type"))
    (gNoTree : PySem.W.nsIn K mainGlobals "NoTree" = some (some (.ref aT)))
    (cT : PySem.W.clsIn K aT = some clT)
    (yT : PySem.W.typeIn K (.ref aT) = some (.type "type"))
    (gFarError : PySem.W.nsIn K mainGlobals "FarError" = some (some (.ref aF)))
    (cF : PySem.W.clsIn K aF = some clF)
    (yF : PySem.W.typeIn K (.ref aF) = some (.type "type"))
    (bF : PySem.W.subIn K (.ref aF) (.type "BaseException") = some true)
    (hno : PySem.W.specialIn K (.builtin "object.__class__") "__get__" = some (some (.builtin "getset_descriptor.__get__")))
    (hto : PySem.W.takesIn K (.builtin "object.__class__") = some true)
    (exN : PySem.W.subIn K (.ref aN) (.type "BaseException") = some true)
    (sVN : PySem.W.subIn K (.ref aN) (.type "ValueError") = some true)
    (gaN : PySem.W.findIn K (.ref aN) "__getattribute__" = some (some (.builtin "BaseException.__getattribute__")))
    (ggN : PySem.W.findIn K (.ref aN) "__getattr__" = some none)
    (hdN : PySem.W.hasDictIn K aN = true)
    (haN : PySem.W.findIn K (.ref aN) "__class__" = some (some (.builtin "object.__class__")))
    (hmN : PySem.W.mroIn K aN (.type "object") = some true)
    (kN : PySem.W.keepIn K (.ref aN) = true)
    (sNA : PySem.W.subIn K (.ref aN) (.ref aA) = some false)
    (nNA : (Value.ref aN == Value.ref aA) = false)
    (sNJ : PySem.W.subIn K (.ref aN) (.ref aJ) = some false)
    (nNJ : (Value.ref aN == Value.ref aJ) = false)
    (sNT : PySem.W.subIn K (.ref aN) (.ref aT) = some false)
    (nNT : (Value.ref aN == Value.ref aT) = false)
    (sNF : PySem.W.subIn K (.ref aN) (.ref aF) = some true)
    (nNF : (Value.ref aN == Value.ref aF) = false)
    (lN : K.lookup aN = some (excClassObj nmN qN aN NN bsN bmN true snN subN abN colN ddN jN0 jN1 jN2 jN3 jN5 "ValueError.__new__"))
    (rN : PySem.HandSPX.refsVE bmN = true)
    (saN : PySem.W.findIn K (.ref aN) "__setattr__" = some (some (.builtin "object.__setattr__")))
    (iN : PySem.W.findIn K (.ref aN) "__init__" = some (some (.ref fNI)))
    (lNI : K.lookup fNI = some ⟨ocNI, odNI, .func (PySem.W.fnOf "__init__" "NoPlace.__init__" (defArgs s_np_init) (defBody s_np_init) (defScope s_np_init) .none kVNI dcNI pmNI anNI cdNI ctNI), slNI⟩)
    (cNI : PySem.W.codeIn K cdNI "NoPlace.__init__" = true)
    (kNI : PySem.W.keepIn K (.ref fNI) = true)
    (tNI : PySem.W.typeIn K (.ref fNI) = some (.type "function"))
    (noN : PySem.W.findIn K (.ref aN) "name" = some none)
    (rdF : PySem.W.readsIn K aF (.type "type") = true)
    (gaF : PySem.W.specialIn K (.ref aF) "__getattribute__" = some (some (.builtin "type.__getattribute__")))
    (vF : PySem.W.findCls K (.ref aF) (.type "type") "__init__" = some (.val (.builtin "ValueError.__init__")))
    (exJ : PySem.W.subIn K (.ref aJ) (.type "BaseException") = some true)
    (sVJ : PySem.W.subIn K (.ref aJ) (.type "ValueError") = some true)
    (gaJ : PySem.W.findIn K (.ref aJ) "__getattribute__" = some (some (.builtin "BaseException.__getattribute__")))
    (ggJ : PySem.W.findIn K (.ref aJ) "__getattr__" = some none)
    (hdJ : PySem.W.hasDictIn K aJ = true)
    (haJ : PySem.W.findIn K (.ref aJ) "__class__" = some (some (.builtin "object.__class__")))
    (hmJ : PySem.W.mroIn K aJ (.type "object") = some true)
    (kJ : PySem.W.keepIn K (.ref aJ) = true)
    (sJN : PySem.W.subIn K (.ref aJ) (.ref aN) = some false)
    (nJN : (Value.ref aJ == Value.ref aN) = false)
    (sJA : PySem.W.subIn K (.ref aJ) (.ref aA) = some false)
    (nJA : (Value.ref aJ == Value.ref aA) = false)
    (sJT : PySem.W.subIn K (.ref aJ) (.ref aT) = some false)
    (nJT : (Value.ref aJ == Value.ref aT) = false)
    (sJF : PySem.W.subIn K (.ref aJ) (.ref aF) = some true)
    (nJF : (Value.ref aJ == Value.ref aF) = false)
    (xJ : PySem.W.excIn K aJ [.type "ValueError", .type "Exception", .type "BaseException", .type "object"] "ValueError.__new__" = true) :
    LamX.LawAtS l w K L2.CX0 9 63 "script" mg fa h := by
  have e := hfa.symm.trans (PySem.W.mg_of X G a21)
  cases e
  have F1 := fun_mk (st := s_law_deck) l1 c1 k1
  have b1 := F1.binds (ps := ["script"]) fun _ _ _ _ _ _ us hl => match us, hl with | [_], _ => rfl
  have F2 := fun_mk (st := s_law_draw) l2 c2 k2
  have b2 := F2.binds (ps := ["deck", "most"]) fun _ _ _ _ _ _ us hl => match us, hl with | [_, _], _ => rfl
  have F3 := fun_mk (st := s_law_same) l3 c3 k3
  have b3 := F3.binds (ps := ["found", "due"]) fun _ _ _ _ _ _ us hl => match us, hl with | [_, _], _ => rfl
  have F4 := fun_mk (st := s_law_names) l4 c4 k4
  have b4 := F4.binds (ps := ["deck", "many", "taken"]) fun _ _ _ _ _ _ us hl => match us, hl with | [_, _, _], _ => rfl
  have F5 := fun_mk (st := s_law_tree) l5 c5 k5
  have b5 := F5.binds (ps := ["deck", "most", "taken"]) fun _ _ _ _ _ _ us hl => match us, hl with | [_, _, _], _ => rfl
  have F6 := fun_mk (st := s_ties_of_each) l6 c6 k6
  have b6 := F6.binds (ps := ["tree"]) fun _ _ _ _ _ _ us hl => match us, hl with | [_], _ => rfl
  have F7 := fun_mk (st := s_walk_from) l7 c7 k7
  have b7 := F7.binds (ps := ["tree", "start"]) fun _ _ _ _ _ _ us hl => match us, hl with | [_, _], _ => rfl
  have F8 := fun_mk (st := s_check_places) l8 c8 k8
  have b8 := F8.binds (ps := ["tree", "names"]) fun _ _ _ _ _ _ us hl => match us, hl with | [_, _], _ => rfl
  have F9 := fun_mk (st := s_lengths_from) l9 c9 k9
  have b9 := F9.binds (ps := ["tree", "place"]) fun _ _ _ _ _ _ us hl => match us, hl with | [_, _], _ => rfl
  have F10 := fun_mk (st := s_farthest_of_each) l10 c10 k10
  have b10 := F10.binds (ps := ["tree"]) fun _ _ _ _ _ _ us hl => match us, hl with | [_], _ => rfl
  have F11 := fun_mk (st := s_check_unlike) l11 c11 k11
  have b11 := F11.binds (ps := ["one", "other"]) fun _ _ _ _ _ _ us hl => match us, hl with | [_, _], _ => rfl
  have F12 := fun_mk (st := s_all_joins) l12 c12 k12
  have b12 := F12.binds (ps := ["one", "other", "length"]) fun _ _ _ _ _ _ us hl => match us, hl with | [_, _, _], _ => rfl
  have FCB : FunC K "best_join" "best_join" s_best_join f13 _ cB := ⟨_, _, _, _, _, _, _, _, rfl, l13, c13⟩
  have F13 := fun_mk (st := s_best_join) l13 c13 k13
  have b13 := F13.binds (ps := ["one", "other", "length"]) fun _ _ _ _ _ _ us hl => match us, hl with | [_, _, _], _ => rfl
  have FCW : FunC K "worst_join" "worst_join" s_worst_join f14 _ cW := ⟨_, _, _, _, _, _, _, _, rfl, l14, c14⟩
  have F14 := fun_mk (st := s_worst_join) l14 c14 k14
  have b14 := F14.binds (ps := ["one", "other", "length"]) fun _ _ _ _ _ _ us hl => match us, hl with | [_, _, _], _ => rfl
  have F15 := fun_mk (st := s_law_lengths) l15 c15 k15
  have b15 := F15.binds (ps := ["tree", "place"]) fun _ _ _ _ _ _ us hl => match us, hl with | [_, _], _ => rfl
  have F16 := fun_mk (st := s_law_joins) l16 c16 k16
  have b16 := F16.binds (ps := ["one", "other", "length"]) fun _ _ _ _ _ _ us hl => match us, hl with | [_, _, _], _ => rfl
  have F17 := fun_mk (st := s_law_by_trial) l17 c17 k17
  have b17 := F17.binds (ps := ["one", "other", "length"]) fun _ _ _ _ _ _ us hl => match us, hl with | [_, _, _], _ => rfl
  have F18 := fun_mk (st := s_law_first) l18 c18 k18
  have b18 := F18.binds (ps := ["joins", "far"]) fun _ _ _ _ _ _ us hl => match us, hl with | [_, _], _ => rfl
  have F19 := fun_mk (st := s_law_caught) l19 c19 k19
  have b19 := F19.binds (ps := ["one", "other", "length", "way"]) fun _ _ _ _ _ _ us hl => match us, hl with | [_, _, _, _], _ => rfl
  have F20 := fun_mk (st := s_law_refused_right) l20 c20 k20
  have b20 := F20.binds (ps := ["deck", "one", "other"]) fun _ _ _ _ _ _ us hl => match us, hl with | [_, _, _], _ => rfl
  have F21 := fun_mk (st := s_law) l21 c21 k21
  have T0 : TxtG mg := ⟨PySem.W.mg_none_of X G zlen, PySem.W.mg_none_of X G zmax, PySem.W.mg_none_of X G zmin, PySem.W.mg_none_of X G zint, PySem.W.mg_none_of X G zrange, PySem.W.mg_none_of X G zlist, PySem.W.mg_none_of X G ztuple, PySem.W.mg_none_of X G zabs⟩
  have TI : TxtI mg := ⟨PySem.W.mg_none_of X G zisinstance, PySem.W.mg_none_of X G zValueError⟩
  have TS : TxtS mg := ⟨PySem.W.mg_none_of X G zisinstance, PySem.W.mg_none_of X G ztuple, PySem.W.mg_none_of X G zstr, PySem.W.mg_none_of X G zint, PySem.W.mg_none_of X G zbool, PySem.W.mg_none_of X G zlen, PySem.W.mg_none_of X G zzip⟩
  have TW : TxtW mg := ⟨PySem.W.mg_none_of X G ztuple⟩
  have TMF : TxtMF mg := ⟨PySem.W.mg_none_of X G ztuple, PySem.W.mg_none_of X G zmax⟩
  have TJ : TxtJ mg := ⟨PySem.W.mg_none_of X G zmax, PySem.W.mg_none_of X G zzip⟩
  have TB2 : TxtB mg := ⟨PySem.W.mg_none_of X G zmin, PySem.W.mg_none_of X G zmax⟩
  have TL : TxtL mg := ⟨PySem.W.mg_none_of X G zmax, PySem.W.mg_none_of X G zlist, PySem.W.mg_none_of X G zenumerate⟩
  have TRR : TxtRR mg := ⟨PySem.W.mg_none_of X G zlen, PySem.W.mg_none_of X G zint, PySem.W.mg_none_of X G ztuple, PySem.W.mg_none_of X G zrange, PySem.W.mg_none_of X G zisinstance, PySem.W.mg_none_of X G zValueError⟩
  have TLL : TxtLL mg := ⟨PySem.W.mg_none_of X G zlen, PySem.W.mg_none_of X G zrange, PySem.W.mg_none_of X G zmin, PySem.W.mg_none_of X G zmax⟩
  have ECN : ExcC K aN := ⟨gaN, ggN, exN, hdN, haN, hno, hto, hmN⟩
  have KNA := kit_own nNA cA yA sNA
  have KNJ := kit_own nNJ cJ yJ sNJ
  have KNT := kit_own nNT cT yT sNT
  have KNF := kit_own nNF cF yF sNF
  have KNV := kit_ve sVN
  have XN : PySem.W.exmOne K (.ref aN) (.ref aF) = some true := exm_own bF cF yF sNF
  have FIN := fun_mk (st := s_np_init) lNI cNI kNI
  have bIN := FIN.binds (ps := ["self", "name"]) fun _ _ _ _ _ _ us hl => match us, hl with | [_, _], _ => rfl
  have NP : NpC K mg aN fNI aF := ⟨⟨⟨_, _, _, _, _, _, _, _, _, _, _, _, _, _, _, lN, rN⟩, saN, exN, yN, kN⟩, iN, tNI, ⟨gaN, ggN, exN, hdN⟩, ECN, noN, PySem.W.mg_of X G gNoPlace, PySem.W.mg_of X G gFarError, rdF, gaF, vF⟩
  have ECJ : ExcC K aJ := ⟨gaJ, ggJ, exJ, hdJ, haJ, hno, hto, hmJ⟩
  have KJN := kit_own nJN cN yN sJN
  have KJA := kit_own nJA cA yA sJA
  have KJT := kit_own nJT cT yT sJT
  have KJF := kit_own nJF cF yF sJF
  have KJV := kit_ve sVJ
  have XJ : PySem.W.exmOne K (.ref aJ) (.ref aF) = some true := exm_own bF cF yF sJF
  have NJ : NjC K mg aJ := ⟨xJ, PySem.W.mg_of X G gNoJoin, kJ, exJ, yJ⟩
  have KJ : KindJ K mg aJ aN aA aT := ⟨PySem.W.mg_of X G gNoAsk, PySem.W.mg_of X G gNoPlace, PySem.W.mg_of X G gNoTree, PySem.W.mg_of X G gNoJoin, ECJ, ECN, ⟨gaN, ggN, exN, hdN⟩, noN, KJA, KJN, KJT, KJV, KNA, KNJ, KNT, KNV⟩
  have C_law_deck : ∀ base : Heap, Cal l.prog w K mg base 1 "_law_deck" (spDeck K) := fun base => ⟨f1, _, _, ok_deck F1 T0, PySem.W.mg_of X G a1, k1, b1⟩
  have C_law_draw : ∀ base : Heap, Cal l.prog w K mg base 1 "_law_draw" spDraw := fun base => ⟨f2, _, _, ok_draw F2 T0, PySem.W.mg_of X G a2, k2, b2⟩
  have C_same0 : ∀ base : Heap, Cal l.prog w K mg base 1 "_law_same" (spSame 0) := fun base => ⟨f3, _, _, same_none, PySem.W.mg_of X G a3, k3, b3⟩
  have C_same1 : ∀ base : Heap, Cal l.prog w K mg base 2 "_law_same" (spSame 1) := fun base => ⟨f3, _, _, ok_same (by decide) F3 TS (C_same0 base), PySem.W.mg_of X G a3, k3, b3⟩
  have C_same2 : ∀ base : Heap, Cal l.prog w K mg base 3 "_law_same" (spSame 2) := fun base => ⟨f3, _, _, ok_same (by decide) F3 TS (C_same1 base), PySem.W.mg_of X G a3, k3, b3⟩
  have C_same3 : ∀ base : Heap, Cal l.prog w K mg base 4 "_law_same" (spSame 3) := fun base => ⟨f3, _, _, ok_same (by decide) F3 TS (C_same2 base), PySem.W.mg_of X G a3, k3, b3⟩
  have C_same4 : ∀ base : Heap, Cal l.prog w K mg base 5 "_law_same" (spSame 4) := fun base => ⟨f3, _, _, ok_same (by decide) F3 TS (C_same3 base), PySem.W.mg_of X G a3, k3, b3⟩
  have C_law_names : ∀ base : Heap, Cal l.prog w K mg base 2 "_law_names" spNames := fun base => ⟨f4, _, _, ok_names F4 T0 (C_law_draw base), PySem.W.mg_of X G a4, k4, b4⟩
  have C_law_tree : ∀ base : Heap, Cal l.prog w K mg base 3 "_law_tree" spTree := fun base => ⟨f5, _, _, ok_tree F5 T0 (C_law_draw base) (C_law_names base), PySem.W.mg_of X G a5, k5, b5⟩
  have C_ties_of_each : ∀ base : Heap, Cal l.prog w K mg base 1 "_ties_of_each" spTies := fun base => ⟨f6, _, _, ok_ties_of_each F6, PySem.W.mg_of X G a6, k6, b6⟩
  have Cwalk_from : ∀ base : Heap, Cal l.prog w K mg base 2 "walk_from" spWalk := fun base => ⟨f7, _, _, ok_walk_from F7 (C_ties_of_each base), PySem.W.mg_of X G a7, k7, b7⟩
  have Ccheck_places : ∀ base : Heap, Cal l.prog w K mg base 1 "check_places" spCheck := fun base => ⟨f8, _, _, ok_check_places F8, PySem.W.mg_of X G a8, k8, b8⟩
  have Clengths_from : ∀ base : Heap, Cal l.prog w K mg base 3 "lengths_from" spLens := fun base => ⟨f9, _, _, ok_lengths_from F9 TW (Ccheck_places base) (Cwalk_from base), PySem.W.mg_of X G a9, k9, b9⟩
  have Cfarthest_of_each : ∀ base : Heap, Cal l.prog w K mg base 4 "farthest_of_each" spFoe := fun base => ⟨f10, _, _, ok_foe F10 TMF (Clengths_from base), PySem.W.mg_of X G a10, k10, b10⟩
  have C_check_unlike : ∀ base : Heap, CalX l.prog w K mg base 1 "_check_unlike" (spUnlikeX aJ) := fun base => ⟨⟨f11, _, _, ok_check_unlike NJ F11, PySem.W.mg_of X G a11, k11, b11⟩⟩
  have C_all_joins : ∀ base : Heap, CalX l.prog w K mg base 5 "_all_joins" (spAllJ aJ) := fun base => ⟨⟨f12, _, _, ok_all_joins F12 TJ (C_check_unlike base) (Cfarthest_of_each base), PySem.W.mg_of X G a12, k12, b12⟩⟩
  have Cbest_join : ∀ base : Heap, LamX.TabB base mg cB PtB → LamX.TabB base mg cW PtW → CalX l.prog w K mg base 6 "best_join" (spBest aJ PtB PtW id) := fun base TBB TBW => ⟨⟨f13, _, _, ok_best FCB TB2 neT TBB (C_all_joins base), PySem.W.mg_of X G a13, k13, b13⟩⟩
  have Cworst_join : ∀ base : Heap, LamX.TabB base mg cB PtB → LamX.TabB base mg cW PtW → CalX l.prog w K mg base 6 "worst_join" (spBest aJ PtB PtW fun i => -i) := fun base TBB TBW => ⟨⟨f14, _, _, ok_worst FCW TB2 neT TBW (C_all_joins base), PySem.W.mg_of X G a14, k14, b14⟩⟩
  have C_law_lengths : ∀ base : Heap, Cal l.prog w K mg base 2 "_law_lengths" spLay := fun base => ⟨f15, _, _, ok_lay F15, PySem.W.mg_of X G a15, k15, b15⟩
  have C_law_joins : ∀ base : Heap, Cal l.prog w K mg base 3 "_law_joins" spLJ := fun base => ⟨f16, _, _, ok_ljoins F16 TL (C_law_lengths base), PySem.W.mg_of X G a16, k16, b16⟩
  have C_law_by_trial : ∀ base : Heap, Cal l.prog w K mg base 3 "_law_by_trial" spTrial := fun base => ⟨f17, _, _, ok_trial F17 TL (C_law_lengths base), PySem.W.mg_of X G a17, k17, b17⟩
  have C_law_first : ∀ base : Heap, Cal l.prog w K mg base 1 "_law_first" spFirst := fun base => ⟨f18, _, _, ok_first F18, PySem.W.mg_of X G a18, k18, b18⟩
  have C_law_caught : ∀ base : Heap, LamX.TabB base mg cB PtB → LamX.TabB base mg cW PtW → Cal l.prog w K mg base 7 "_law_caught" (spCaught aJ PtB PtW) := fun base TBB TBW => ⟨f19, _, _, ok_caught F19 (PySem.W.mg_of X G gFarError) XJ (Cbest_join base TBB TBW) (Cworst_join base TBB TBW), PySem.W.mg_of X G a19, k19, b19⟩
  have C_law_refused_right : ∀ base : Heap, LamX.TabB base mg cB PtB → LamX.TabB base mg cW PtW → Cal l.prog w K mg base 8 "_law_refused_right" (spRR PtB PtW) := fun base TBB TBW => ⟨f20, _, _, ok_rr F20 TRR KJ (C_law_draw base) (C_law_caught base TBB TBW), PySem.W.mg_of X G a20, k20, b20⟩
  have tB : PySem.W.tabIn K "best_join" = some (cB, PtB) := by
    unfold PySem.W.tabIn
    simp only [a13, l13, kcB, vPB]
  have tW : PySem.W.tabIn K "worst_join" = some (cW, PtW) := by
    unfold PySem.W.tabIn
    simp only [a14, l14, kcW, vPW]
  have two : ∀ {R : Addr × Addr → Prop}, R (cB, PtB) → R (cW, PtW) → ∀ p ∈ [(cB, PtB), (cW, PtW)], R p := fun r1 r2 p hp => by
    rcases List.mem_cons.mp hp with e | e
    · rw [e]
      exact r1
    · rw [List.mem_singleton.mp e]
      exact r2
  refine ⟨_, [(cB, PtB), (cW, PtW)], spLawT K PtB PtW, two (R := fun p => h.get? p.2 = some { cls := .none, data := .fields #[] }) (tabB _ _ tB).2 (tabW _ _ tW).2, two (R := fun p => K.lookup p.2 = none) nTB nTW, two (R := fun p => PySem.W.CodeHd h p.1 p.2) (tabB _ _ tB).1 (tabW _ _ tW).1, fun s v => .of_eq rfl, fun H a ns hl hb hH hS => ?_, fun base _ _ TB => ok_law F21 TLL (C_law_deck base) (C_law_draw base) (C_law_tree base) (C_law_joins base) (C_law_by_trial base) (C_law_first base) (C_same4 base) (Cbest_join base (TB (cB, PtB) (List.mem_cons_self ..)) (TB (cW, PtW) (List.mem_cons_of_mem _ (List.mem_cons_self ..)))) (Cworst_join base (TB (cB, PtB) (List.mem_cons_self ..)) (TB (cW, PtW) (List.mem_cons_of_mem _ (List.mem_cons_self ..)))) (C_law_refused_right base (TB (cB, PtB) (List.mem_cons_self ..)) (TB (cW, PtW) (List.mem_cons_of_mem _ (List.mem_cons_self ..))))⟩
  refine ⟨a, ns, rfl, hS, hl, hb, fun p hp => ?_, fun _ => rfl⟩
  rcases List.mem_cons.mp hp with e | e
  · rw [e]
    exact LamX.TabS.nil (hH (cB, PtB) (List.mem_cons_self ..))
  · rw [List.mem_singleton.mp e]
    exact LamX.TabS.nil (hH (cW, PtW) (List.mem_cons_of_mem _ (List.mem_cons_self ..)))
end Far
open PySem PySem.W PyProof.Rows in
set_option maxRecDepth 100000 in
set_option maxHeartbeats 0 in
theorem PySem.Challenge.cw_farplaces_k19_best_and_worst_joins_holds : PySem.Challenge.rw_farplaces_k19_best_and_worst_joins.Holds := by
  w_on; o_law; k_head; (case hw => w_witness2)
  k_fill
  refine Far.walk_nm2 (l := PySem.Challenge.rw_farplaces_k19_best_and_worst_joins) (k := 9) (x := "script") (nm := "best_join") (nn := "worst_join") ⟨rfl, by decide, by decide⟩ rfl rfl (by rfl) (by rfl) (fun w h Y => PySem.W.km_in_of Y) ?F
  case F =>
    intro w mg fa h KX G hmg tabB tabW
    refine' Far.all_mk KX G hmg ?kcB ?vPB ?nTB tabB ?kcW ?vPW ?nTW tabW ?neT ?a1 ?l1 ?c1 ?k1 ?a2 ?l2 ?c2 ?k2 ?a3 ?l3 ?c3 ?k3 ?a4 ?l4 ?c4 ?k4 ?a5 ?l5 ?c5 ?k5 ?a6 ?l6 ?c6 ?k6 ?a7 ?l7 ?c7 ?k7 ?a8 ?l8 ?c8 ?k8 ?a9 ?l9 ?c9 ?k9 ?a10 ?l10 ?c10 ?k10 ?a11 ?l11 ?c11 ?k11 ?a12 ?l12 ?c12 ?k12 ?a13 ?l13 ?c13 ?k13 ?a14 ?l14 ?c14 ?k14 ?a15 ?l15 ?c15 ?k15 ?a16 ?l16 ?c16 ?k16 ?a17 ?l17 ?c17 ?k17 ?a18 ?l18 ?c18 ?k18 ?a19 ?l19 ?c19 ?k19 ?a20 ?l20 ?c20 ?k20 ?a21 ?l21 ?c21 ?k21 ?zValueError ?zabs ?zbool ?zenumerate ?zint ?zisinstance ?zlen ?zlist ?zmax ?zmin ?zrange ?zstr ?ztuple ?zzip ?gNoPlace ?cN ?yN ?gNoAsk ?cA ?yA ?gNoJoin ?cJ ?yJ ?gNoTree ?cT ?yT ?gFarError ?cF ?yF ?bF ?hno ?hto ?exN ?sVN ?gaN ?ggN ?hdN ?haN ?hmN ?kN ?sNA ?nNA ?sNJ ?nNJ ?sNT ?nNT ?sNF ?nNF ?lN ?rN ?saN ?iN ?lNI ?cNI ?kNI ?tNI ?noN ?rdF ?gaF ?vF ?exJ ?sVJ ?gaJ ?ggJ ?hdJ ?haJ ?hmJ ?kJ ?sJN ?nJN ?sJA ?nJA ?sJT ?nJT ?sJF ?nJF ?xJ
    (case a1 => k_is); (case l1 => k_is); (case c1 => k_is); (case k1 => k_is); (case a2 => k_is); (case l2 => k_is); (case c2 => k_is); (case k2 => k_is); (case a3 => k_is); (case l3 => k_is); (case c3 => k_is); (case k3 => k_is); (case a4 => k_is); (case l4 => k_is); (case c4 => k_is); (case k4 => k_is); (case a5 => k_is); (case l5 => k_is); (case c5 => k_is); (case k5 => k_is); (case a6 => k_is); (case l6 => k_is); (case c6 => k_is); (case k6 => k_is); (case a7 => k_is); (case l7 => k_is); (case c7 => k_is); (case k7 => k_is); (case a8 => k_is); (case l8 => k_is); (case c8 => k_is); (case k8 => k_is); (case a9 => k_is); (case l9 => k_is); (case c9 => k_is); (case k9 => k_is); (case a10 => k_is); (case l10 => k_is); (case c10 => k_is); (case k10 => k_is); (case a11 => k_is); (case l11 => k_is); (case c11 => k_is); (case k11 => k_is); (case a12 => k_is); (case l12 => k_is); (case c12 => k_is); (case k12 => k_is); (case a13 => k_is); (case l13 => k_is); (case c13 => k_is); (case k13 => k_is); (case a14 => k_is); (case l14 => k_is); (case c14 => k_is); (case k14 => k_is); (case a15 => k_is); (case l15 => k_is); (case c15 => k_is); (case k15 => k_is); (case a16 => k_is); (case l16 => k_is); (case c16 => k_is); (case k16 => k_is); (case a17 => k_is); (case l17 => k_is); (case c17 => k_is); (case k17 => k_is); (case a18 => k_is); (case l18 => k_is); (case c18 => k_is); (case k18 => k_is); (case a19 => k_is); (case l19 => k_is); (case c19 => k_is); (case k19 => k_is); (case a20 => k_is); (case l20 => k_is); (case c20 => k_is); (case k20 => k_is); (case a21 => k_is); (case l21 => k_is); (case c21 => k_is); (case k21 => k_is); (case zValueError => k_is); (case zabs => k_is); (case zbool => k_is); (case zenumerate => k_is); (case zint => k_is); (case zisinstance => k_is); (case zlen => k_is); (case zlist => k_is); (case zmax => k_is); (case zmin => k_is); (case zrange => k_is); (case zstr => k_is); (case ztuple => k_is); (case zzip => k_is); (case gNoPlace => k_is); (case cN => k_is); (case yN => k_is); (case gNoAsk => k_is); (case cA => k_is); (case yA => k_is); (case gNoJoin => k_is); (case cJ => k_is); (case yJ => k_is); (case gNoTree => k_is); (case cT => k_is); (case yT => k_is); (case gFarError => k_is); (case cF => k_is); (case yF => k_is); (case bF => k_is); (case hno => k_is); (case hto => k_is); (case exN => k_is); (case sVN => k_is); (case gaN => k_is); (case ggN => k_is); (case hdN => k_is); (case haN => k_is); (case hmN => k_is); (case kN => k_is); (case sNA => k_is); (case nNA => rfl); (case sNJ => k_is); (case nNJ => rfl); (case sNT => k_is); (case nNT => rfl); (case sNF => k_is); (case nNF => rfl); (case lN => k_is); (case rN => rfl); (case saN => k_is); (case iN => k_is); (case lNI => k_is); (case cNI => k_is); (case kNI => k_is); (case tNI => k_is); (case noN => k_is); (case rdF => k_is); (case gaF => k_is); (case vF => k_is); (case exJ => k_is); (case sVJ => k_is); (case gaJ => k_is); (case ggJ => k_is); (case hdJ => k_is); (case haJ => k_is); (case hmJ => k_is); (case kJ => k_is); (case sJN => k_is); (case nJN => rfl); (case sJA => k_is); (case nJA => rfl); (case sJT => k_is); (case nJT => rfl); (case sJF => k_is); (case nJF => rfl); (case xJ => k_exc)
    (case kcB => k_is); (case vPB => exact rfl); (case nTB => first | k_is | exact rfl); (case kcW => k_is); (case vPW => exact rfl); (case nTW => first | k_is | exact rfl); (case neT => decide)

