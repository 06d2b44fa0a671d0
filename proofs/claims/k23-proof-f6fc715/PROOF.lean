import PyProof.Rows.All
import Wide.All
import OpenK.AllK
import Wide.FinOn
import HandS.ForMost
import HandS.Wide
import HandS.Codes
import HandS.Conv
import HandS.TupAny
import HandS.Style
import HandS.IsInst
import HandS.FStr
import HandS.DictComp
import HandS.NoneIn
import HandS.WideBits
import KE.IntBitsLaws
import HandS.Zip
import KE.GoesMore
import KE.GoesZip
import KE.GoesEnum
import KE.KDictZip
import HandS.OwnIter
import HandS.SortInts
import HandS.Lambda
import HandS.SortKw
import KE.SortKeyHeap
import KE.KSortKey
import KE.SortData
import HandS.Sort
import PyProof.EnumMake
import HandS.List
import KE.KTupSum
import PyProof.WalkInts
import HandS.DeepEq
import HandS.Finally
import HandS.More
import KE.KEqDict
import HandS.ListItems
import KE.DataCmp
import KE.OsArith
import PyProof.Rows.BitMore
import HandS.Star
import HandS.EndBits
import PySem.Challenge.RW_farplaces_k23_leaves_and_near_places
set_option Elab.async false
set_option linter.all false
set_option maxRecDepth 100000
set_option maxHeartbeats 8000000
namespace Far
open PySem PySem.Spec PyProof.Rows L2
open C8 (pss_cut tCut)
open SX (S)
def topS (i : Nat) : Stmt := PySem.Challenge.pw_farplaces_k23_leaves_and_near_places.main.body.getD i (.Pass ⟨0, 0, 0, 0⟩)

theorem hd_of {A : Around} {k : Nat} (hr : Room k A) (h : 1 ≤ k) : A.units + 64 < cLine := by
  have := hr.units
  omega

/-- a def of the module that may be called by its name -/
structure Cal (P : Program) (w : World) (K : PySem.W.Frag) (mg : Str → Option Value) (base : Heap) (k : Nat) (x : Str) (sp : Sp) : Prop where
  ex : ∃ (f : Addr) (fd : FuncData) (ps : List Str), FnOk P w K mg base CX0 k f fd ps sp ∧ mg x = some (.ref f) ∧ PySem.W.keepIn K (.ref f) = true ∧ Binds K fd ps []
theorem pe_c {X : Cx} {k j : Nat} {x : Str} {sp : Sp} {p pos : Pos} {e : Expr} {es : List Expr} {t : TA} (c : Cal X.prog X.w X.K X.mg X.base k x sp) (hr : Room j X.A) (hk : k ≤ j) (hg : Gl X x) (ha : PA X (e :: es) t)
    (hdb : (x == ("__debug__" : Str)) = false := by decide) (he : starEach (e :: es) X.env = (false, eval e X.env) :: starEach es X.env := by rfl) (hpl : (backTo pos (starEach es X.env)).any (·.1) = false := by rfl) :
    PE X (.Call (.Name x p) (e :: es) [] pos) (tCall sp [] E0 t) := by
  obtain ⟨f, fd, ps, F, hm, kp, b⟩ := c.ex
  exact pe_call F (hr.mono hk) hg hm kp b .nil pass0 ha hdb he hpl

theorem bt_len : bootBuiltins ("len" : Str) = some (.builtin "len") := by decide +kernel
theorem bt_sum : bootBuiltins ("sum" : Str) = some (.builtin "sum") := by decide +kernel
theorem bt_max : bootBuiltins ("max" : Str) = some (.builtin "max") := by decide +kernel
theorem bt_all : bootBuiltins ("all" : Str) = some (.builtin "all") := by decide +kernel
theorem bt_isinstance : bootBuiltins ("isinstance" : Str) = some (.builtin "isinstance") := by decide +kernel
theorem bt_int : bootBuiltins ("int" : Str) = some (.type "int") := by decide +kernel
theorem bt_str : bootBuiltins ("str" : Str) = some (.type "str") := by decide +kernel
theorem bt_tuple : bootBuiltins ("tuple" : Str) = some (.type "tuple") := by decide +kernel
theorem bt_bool : bootBuiltins ("bool" : Str) = some (.type "bool") := by decide +kernel
theorem bt_list : bootBuiltins ("list" : Str) = some (.type "list") := by decide +kernel
/-- rules with the written part named, for use within a comprehension -/
def rLenV (K : PySem.W.Frag) : List V → Hp → VK → Prop := fun xs H Q => ∃ x n, xs = [x] ∧ LenV K x H n ∧ Q (.int n) H
theorem lenK {X : Cx} {K : PySem.W.Frag} (e : X.K = K := by rfl) : CallR X (.builtin "len") (rLenV K) := by
  subst e
  exact call_len
theorem ixl {X : Cx} {K : PySem.W.Frag} (e : X.K = K := by rfl) : IxR X (rIxL K) := by
  subst e
  exact ix_list
theorem ixt {X : Cx} {K : PySem.W.Frag} (e : X.K = K := by rfl) : IxR X (rIxT K) := by
  subst e
  exact ix_tup
/-- what the module's names hold that are built-ins, and its constants -/
structure Txt (mg : Str → Option Value) : Prop where
  len : mg "len" = none
  sum : mg "sum" = none
  range : mg "range" = none
  int : mg "int" = none
  max : mg "max" = none
  list : mg "list" = none
  tuple : mg "tuple" = none

/-- all that stood stands as it was, but for the one object -/
def SmX (d : Addr) (H H' : Hp) : Prop := ∀ b o, b ≠ d → H b = some o → H' b = some o
theorem SmX.refl {d : Addr} (H : Hp) : SmX d H H := fun _ _ _ h => h
theorem SmX.trans {d : Addr} {H H1 H2 : Hp} (a : SmX d H H1) (b : SmX d H1 H2) : SmX d H H2 := fun x o n h => b x o n (a x o n h)
theorem SmX.new {d : Addr} {H H1 : Hp} {p : Addr} {o : HO} (a : SmX d H H1) (n : H1 p = none) : SmX d H (upd H1 p o) := fun x u nx h => by
  rw [upd_ne (ne_of_none (a x u nx h) n)]
  exact a x u nx h
theorem SmX.mut {d : Addr} {H H1 : Hp} {o : HO} (a : SmX d H H1) : SmX d H (upd H1 d o) := fun x u nx h => by
  rw [upd_ne nx]
  exact a x u nx h
/-- an object that the first heap does not know may change -/
theorem SmX.put {d : Addr} {H H1 : Hp} {p : Addr} {o : HO} (a : SmX d H H1) (n : H p = none) : SmX d H (upd H1 p o) := fun x u nx h => by
  rw [upd_ne (ne_of_none h n)]
  exact a x u nx h

/-- the deck at d, its cells at c: at most n were mixed -/
def DeckAt (H : Hp) (d c : Addr) (n : Nat) : Prop := ∃ (cs : List Int) (i l m z : Int), H d = some (.lst [.ref c, .int i, .int l, .int m, .int z]) ∧ H c = some (.lst (cs.map V.int)) ∧ c ≠ d ∧ cs.length ≤ 63 ∧ 0 ≤ i ∧ i ≤ 63 ∧ 0 ≤ l ∧ 0 ≤ m ∧ m ≤ n
theorem DeckAt.new {H : Hp} {d c p : Addr} {o : HO} {n : Nat} (h : DeckAt H d c n) (np : H p = none) : DeckAt (upd H p o) d c n := by
  obtain ⟨cs, i, l, m, z, h1, h2, h3⟩ := h
  exact ⟨cs, i, l, m, z, by rw [upd_ne (ne_of_none h1 np)]; exact h1, by rw [upd_ne (ne_of_none h2 np)]; exact h2, h3⟩
theorem DeckAt.put {H : Hp} {d c p : Addr} {o : HO} {n : Nat} (h : DeckAt H d c n) (nd : p ≠ d) (nc : p ≠ c) : DeckAt (upd H p o) d c n := by
  obtain ⟨cs, i, l, m, z, h1, h2, h3⟩ := h
  exact ⟨cs, i, l, m, z, by rw [upd_ne nd.symm]; exact h1, by rw [upd_ne nc.symm]; exact h2, h3⟩
theorem DeckAt.nd {H : Hp} {d c p : Addr} {n : Nat} (h : DeckAt H d c n) (np : H p = none) : p ≠ d := fun e => by
  obtain ⟨_, _, _, _, _, h1, _⟩ := h
  rw [e, h1] at np
  cases np
theorem DeckAt.nc {H : Hp} {d c p : Addr} {n : Nat} (h : DeckAt H d c n) (np : H p = none) : p ≠ c := fun e => by
  obtain ⟨_, _, _, _, _, _, h2, _⟩ := h
  rw [e, h2] at np
  cases np
theorem DeckAt.mono {H : Hp} {d c : Addr} {n m : Nat} (h : DeckAt H d c n) (le : n ≤ m) : DeckAt H d c m := by
  obtain ⟨cs, i, l, m', z, h1, h2, h3, h4, h5, h6, h7, h8, h9⟩ := h
  exact ⟨cs, i, l, m', z, h1, h2, h3, h4, h5, h6, h7, h8, by omega⟩
theorem SmX.free {d : Addr} {H H' : Hp} {p : Addr} (a : SmX d H H') (n : H' p = none) (nd : p ≠ d) : H p = none := by
  cases q : H p with
  | none => rfl
  | some o =>
    rw [a p o nd q] at n
    cases n

/-- the signs of a name -/
def NameOk (l : List Nat) : Prop := 1 ≤ l.length ∧ l.length ≤ 8 ∧ ∀ c ∈ l, 97 ≤ c ∧ c ≤ 122
theorem sz_le {n : Nat} (h : n ≤ 100000) : n ≤ sizeLine := Nat.le_trans h (by decide)
theorem sz_lt {n : Nat} (h : n ≤ 100000) : n < sizeLine := Nat.lt_of_le_of_lt h (by decide)
theorem atI_in {α : Type} {xs : List α} {i : Int} (h0 : 0 ≤ i) (h1 : i < xs.length) : ∃ v, atI xs i = some v ∧ v ∈ xs := by
  have e : i = ((i.toNat : Nat) : Int) := by omega
  have l : i.toNat < xs.length := by omega
  refine ⟨xs[i.toNat], ?_, List.getElem_mem l⟩
  have q := atI_nat (List.getElem?_eq_getElem l)
  rwa [← e] at q
theorem S_of (z : Str) : ∃ l, z = S l := ⟨z.cps.toList, (SX.S_tl z).symm⟩
theorem join_none : ∀ ys : List (List Nat), TL.joinL [] ys = ys.flatten
  | [] => rfl
  | [x] => by simp [TL.joinL]
  | x :: y :: r => by
    have ih := join_none (y :: r)
    show x ++ ([] ++ TL.joinL [] (y :: r)) = x ++ (y :: r).flatten
    rw [ih]
    rfl
theorem flat_one (cs : List Nat) : (cs.map fun c => [c]).flatten = cs := by
  induction cs with
  | nil => rfl
  | cons c r ih => rw [List.map_cons, List.flatten_cons, ih]; rfl
theorem one_sum' (cs : List Nat) : ((cs.map fun c => S [c]).map (·.length)).sum = cs.length := by
  induction cs with
  | nil => rfl
  | cons c r ih =>
    rw [List.map_cons, List.map_cons, List.sum_cons, ih, List.length_cons, SX.S_len]
    show 1 + r.length = r.length + 1
    omega
theorem bt_min : bootBuiltins ("min" : Str) = some (.builtin "min") := by decide +kernel
theorem same_new {H H1 : Hp} {p : Addr} {o : HO} (a : Same H H1) (n : H1 p = none) : Same H (upd H1 p o) := fun x u h => by
  rw [upd_ne (ne_of_none (a x u h) n)]
  exact a x u h
theorem same_put {H H1 : Hp} {p : Addr} {o : HO} (a : Same H H1) (n : H p = none) : Same H (upd H1 p o) := fun x u h => by
  rw [upd_ne (ne_of_none h n)]
  exact a x u h
end Far

namespace Far
open PySem PySem.Spec PyProof.Rows L2
open C8 (pss_cut tCut)
open SX (S)
theorem bt_abs : bootBuiltins ("abs" : Str) = some (.builtin "abs") := by decide +kernel
structure TxtG (mg : Str → Option Value) : Prop where
  len : mg "len" = none
  max : mg "max" = none
  min : mg "min" = none
  int : mg "int" = none
  range : mg "range" = none
  list : mg "list" = none
  tuple : mg "tuple" = none
  abs : mg "abs" = none
/-- the deck at d, drawn from n times at most -/
def SeedAt (H : Hp) (d : Addr) (n : Nat) : Prop := ∃ a m k : Int, H d = some (.lst [.int a, .int m, .int k]) ∧ 0 ≤ a ∧ 0 ≤ k ∧ k ≤ n ∧ 0 ≤ m ∧ m < 1999999871
theorem SeedAt.new {H : Hp} {d p : Addr} {o : HO} {n : Nat} (h : SeedAt H d n) (np : H p = none) : SeedAt (upd H p o) d n := by
  obtain ⟨a, f, k, h1, h2⟩ := h
  exact ⟨a, f, k, by rw [upd_ne (ne_of_none h1 np)]; exact h1, h2⟩
theorem SeedAt.put {H : Hp} {d p : Addr} {o : HO} {n : Nat} (h : SeedAt H d n) (nd : p ≠ d) : SeedAt (upd H p o) d n := by
  obtain ⟨a, f, k, h1, h2⟩ := h
  exact ⟨a, f, k, by rw [upd_ne nd.symm]; exact h1, h2⟩
theorem SeedAt.nd {H : Hp} {d p : Addr} {n : Nat} (h : SeedAt H d n) (np : H p = none) : p ≠ d := fun e => by
  obtain ⟨a, f, k, h1, _⟩ := h
  rw [e, h1] at np
  cases np
theorem SeedAt.mono {H : Hp} {d : Addr} {n m : Nat} (h : SeedAt H d n) (l : n ≤ m) : SeedAt H d m := by
  obtain ⟨a, f, k, h1, h2, h3, h4, h5⟩ := h
  exact ⟨a, f, k, h1, h2, h3, by omega, h5⟩
theorem SeedAt.lst {H : Hp} {d : Addr} {n : Nat} (h : SeedAt H d n) : ∃ xs, H d = some (.lst xs) := by
  obtain ⟨_, _, _, h1, _⟩ := h
  exact ⟨_, h1⟩
theorem cut_all (xs : List V) (h : xs.length ≤ 63) : cutV xs none (some 63) = xs := by
  unfold cutV
  rw [HT.sIx_none, show HT.sIx xs.length xs.length (some 63) = min 63 xs.length from HT.sIx_nat _ _ 63, Nat.min_eq_right h, List.drop_zero, Nat.sub_zero]
  exact List.take_length
theorem grow_bits {g c : Int} {i : Nat} (hg : Builtin.Int.intBits g ≤ 1048576 + 206 * i) (hc : Builtin.Int.intBits c ≤ 1048576) : Builtin.Int.intBits (g * 2 ^ 205 + (if c < 0 then -c else c)) ≤ 1048576 + 206 * (i + 1) := by
  have h1 := PySem.intBits_le_iff.mp hg
  have h2 := PySem.intBits_le_iff.mp hc
  refine PySem.intBits_le_iff.mpr ?_
  have e : (if c < 0 then -c else c).natAbs = c.natAbs := by split <;> omega
  have a1 : (g * 2 ^ 205 + (if c < 0 then -c else c)).natAbs ≤ (g * 2 ^ 205).natAbs + c.natAbs := by
    rw [← e]
    exact Int.natAbs_add_le _ _
  have a2 : (g * 2 ^ 205 : Int).natAbs = g.natAbs * 2 ^ 205 := by rw [Int.natAbs_mul]; rfl
  rw [a2] at a1
  have a3 : 1048576 + 206 * (i + 1) = (1048576 + 206 * i) + 206 := by omega
  rw [a3, Nat.pow_add]
  have a4 : (2 : Nat) ^ 1048576 ≤ 2 ^ (1048576 + 206 * i) := Nat.pow_le_pow_right (by decide) (by omega)
  have a5 : (2 : Nat) ^ 206 = 2 ^ 205 * 2 := rfl
  generalize (2 : Nat) ^ (1048576 + 206 * i) = k at *
  have a6 : g.natAbs * 2 ^ 205 ≤ (k - 1) * 2 ^ 205 := Nat.mul_le_mul_right _ (by omega)
  have a7 : (k - 1) * 2 ^ 205 + k ≤ k * 2 ^ 206 := by
    have k0 : 0 < k := by omega
    obtain ⟨j, rfl⟩ : ∃ j, k = j + 1 := ⟨k - 1, by omega⟩
    rw [Nat.add_sub_cancel, a5]
    generalize (2 : Nat) ^ 205 = m at *
    have m0 : 1 ≤ m := by
      rcases Nat.eq_zero_or_pos m with z | z
      · rw [z] at a5
        exact absurd a5 (by decide)
      · exact z
    have : (j + 1) * (m * 2) = j * m + (j * m + 2 * m) := by
      rw [Nat.add_mul, Nat.mul_comm m 2, ← Nat.mul_assoc, Nat.mul_comm j 2, Nat.mul_assoc]
      omega
    rw [this]
    have : j ≤ j * m := Nat.le_mul_of_pos_right _ m0
    omega
  omega
abbrev s_law_deck : Stmt := topS 19
abbrev N_law_deck : List Str := ["script", "great", "mixed", "cell"]
theorem sc_law_deck : FnScope N_law_deck ["script"] (defScope s_law_deck) := ⟨rfl, rfl, rfl, by decide +kernel, rfl, by decide +kernel, by decide +kernel⟩
section
variable {P : Program} {w : World} {K : PySem.W.Frag} {mg : Str → Option Value} {base : Heap}
def spDeck (K : PySem.W.Frag) : Sp := fun vs H Q _ => ∃ (a : Addr) (ns : List Int), vs = [.ref a] ∧ SqL K H a (ns.map V.int) ∧ ns.length ≤ 63 ∧ (∀ z ∈ ns, Builtin.Int.intBits z ≤ 1048576) ∧ ∀ (H' : Hp) (d : Addr), Same H H' → H d = none → SeedAt H' d 0 → Q (.ref d) H'
theorem ok_deck {f : Addr} {fd : FuncData} (F : Fun K "_law_deck" "_law_deck" s_law_deck f fd) (T : TxtG mg) : FnOk P w K mg base CX0 1 f fd ["script"] (spDeck K) := by
  refine F.ok sc_law_deck (fun vs H Q E h => ?_) (fun cdv A outer s H vs Q E hr h => ?_)
  · obtain ⟨a, ns, rfl, _⟩ := h
    rfl
  · obtain ⟨a, ns, rfl, hS, hl, hb, q⟩ := h
    refine ⟨_, (pss_cons (ps_set (i := 1) sc_law_deck.nd rfl (.inl rfl) pe_int)
      (pss_cons (ps_set (i := 2) sc_law_deck.nd rfl (.inl rfl) (pe_op op_add (pe_op op_mul pe_int (pe_callB call_len_seq (by rfl) T.len bt_len (pa_cons (pv 0) pa_nil))) pe_int))
      (pss_cut (ps_for PassesOwn.never rfl (pi_list (pe_slice sl_list (pv 0) po_none (po_some pe_int))) (pg_name (i := 3) sc_law_deck.nd rfl (.inl rfl))
        (pss_one (ps_if (pt_cmpR op_ge (pe_callB call_abs (by rfl) T.abs bt_abs (pa_cons (pv 3) pa_nil)) (pe_op op_pow pe_int pe_int) (nomark _))
          (pss_one (ps_set (i := 1) sc_law_deck.nd rfl (.inl rfl) (pe_op op_add (pe_op op_shlN (pv 1) pe_int) (pe_callB call_abs (by rfl) T.abs bt_abs (pa_cons (pv 3) pa_nil)))))
          (pss_one (ps_set (i := 2) sc_law_deck.nd rfl (.inl rfl) (pe_op op_mod (pe_op op_add (pe_op op_mul (pv 2) pe_int) (pv 3)) pe_int))))))
      (pss_one (ps_ret (pe_lst (pa_cons (pv 1) (pa_cons (pv 2) (pa_cons pe_int pa_nil))))))))), ?_⟩
    have hl' : (ns.map V.int).length ≤ 63 := by rw [List.length_map]; exact hl
    refine ⟨_, rfl, a, _, rfl, .inl hS, _, _, rfl, rfl, .inl ⟨by omega, by omega⟩, _, _, rfl, rfl, ?_⟩
    refine ⟨fun σ' H' => ∃ (g m : Int) (x3 : Option V), σ' = [some (.ref a), some (.int g), some (.int m), x3] ∧ Same H H' ∧ 0 ≤ g ∧ 0 ≤ m ∧ m < 1999999871, ?_, fun σ' H' hM => ?_⟩
    · refine ⟨_, rfl, 63, rfl, a, _, rfl, hS, fun c nc => ?_⟩
      rw [cut_all _ hl']
      have S1 := same_new (o := .lst (ns.map V.int)) (Same.refl H) nc
      have hc : (upd H c (.lst (ns.map V.int))) c = some (.lst (ns.map V.int)) := upd_same
      generalize upd H c (.lst (ns.map V.int)) = H1 at S1 hc
      refine ⟨c, rfl, ⟨_, SqL.of hc⟩, for_list (K := K) (a := c) (xs := ns.map V.int) (fun i σ' H' => ∃ (g m : Int) (x3 : Option V), σ' = [some (.ref a), some (.int g), some (.int m), x3] ∧ H' = H1 ∧ 0 ≤ g ∧ Builtin.Int.intBits g ≤ 1048576 + 206 * i ∧ i ≤ 63 ∧ 0 ≤ m ∧ m < 1999999871) ⟨_, _, _, rfl, rfl, by omega, by decide, by omega, by omega, by omega⟩ (fun i σ' H' _ hP => ?_) (fun i v σ' H' hi hP => ?_) (fun σ' H' hP => ?_)⟩
      · obtain ⟨_, _, _, _, rfl, _⟩ := hP
        exact SqL.of hc
      · obtain ⟨g, m, x3, rfl, rfl, g0, gb, i63, m0, m1⟩ := hP
        have il := (List.getElem?_eq_some_iff.mp hi).1
        rw [List.getElem?_map] at hi
        cases e : ns[i]? with
        | none =>
          rw [e] at hi
          cases hi
        | some z =>
          rw [e] at hi
          have ev : v = .int z := (Option.some.inj hi).symm
          subst ev
          have zb := hb z (List.mem_of_getElem? e)
          refine ⟨_, rfl, z, rfl, _, _, rfl, rfl, ⟨by decide, by decide, by decide⟩, _, _, rfl, rfl, _, rfl, ?_⟩
          refine ite2 (fun e1 => ?_) (fun e1 => ?_)
          · refine ⟨_, rfl, g, 205, rfl, rfl, ⟨by decide, by omega⟩, _, rfl, z, rfl, _, _, rfl, rfl, ?_⟩
            refine ⟨_, _, _, rfl, rfl, ?_, grow_bits gb zb, by omega, m0, m1⟩
            have : 0 ≤ g * 2 ^ 205 := Int.mul_nonneg g0 (by decide)
            split <;> omega
          · refine ⟨_, rfl, _, _, rfl, rfl, .inl ⟨by omega, by omega⟩, _, rfl, _, _, rfl, rfl, _, _, rfl, rfl, (by show (0 : Int) < _; decide), ?_⟩
            exact ⟨_, _, _, rfl, rfl, g0, by omega, by omega, Int.emod_nonneg _ (by decide), Int.emod_lt_of_pos _ (by decide)⟩
      · obtain ⟨g, m, x3, rfl, rfl, g0, gb, i63, m0, m1⟩ := hP
        exact ⟨_, _, _, rfl, S1, g0, m0, m1⟩
    · obtain ⟨g, m, x3, rfl, S1, g0, m0, m1⟩ := hM
      refine ⟨_, rfl, _, rfl, (by show 3 ≤ sizeLine; decide), fun d nd => ?_⟩
      exact q _ d (same_new S1 nd) (S1.free nd) ⟨g, m, 0, upd_same, g0, by omega, by omega, m0, m1⟩
end
abbrev s_law_draw : Stmt := topS 20
abbrev N_law_draw : List Str := ["deck", "most", "found", "turn", "one"]
theorem sc_law_draw : FnScope N_law_draw ["deck", "most"] (defScope s_law_draw) := ⟨rfl, rfl, rfl, by decide +kernel, rfl, by decide +kernel, by decide +kernel⟩
section
variable {P : Program} {w : World} {K : PySem.W.Frag} {mg : Str → Option Value} {base : Heap}
def spDraw : Sp := fun vs H Q _ => ∃ (d : Addr) (n : Nat) (many : Int), vs = [.ref d, .int many] ∧ SeedAt H d n ∧ n < 100000 ∧ 0 < many ∧ many < 2 ^ 60 ∧ ∀ (H' : Hp) (r : Int), 0 ≤ r → r < many → SmX d H H' → SeedAt H' d (n + 1) → Q (.int r) H'
theorem ok_draw {f : Addr} {fd : FuncData} (F : Fun K "_law_draw" "_law_draw" s_law_draw f fd) (T : TxtG mg) : FnOk P w K mg base CX0 1 f fd ["deck", "most"] spDraw := by
  refine F.ok sc_law_draw (fun vs H Q E h => ?_) (fun cdv A outer s H vs Q E hr h => ?_)
  · obtain ⟨d, n, many, rfl, _⟩ := h
    rfl
  · obtain ⟨d, n, many, rfl, ⟨a, m, k, h1, a0, k0, k1, m0, m1⟩, hn, hm0, hm1, q⟩ := h
    refine ⟨_, (pss_cons (ps_asg (pe_op op_add (pe_ix ix_list (pv 0) pe_int (fun _ _ => rfl)) pe_int) (pg_sub (pv 0) pe_int set_list))
      (pss_cut (ps_if (pt_cmpR op_gt (pe_ix ix_list (pv 0) pe_int (fun _ _ => rfl)) pe_int (nomark _))
        (pss_cons (ps_set (i := 2) sc_law_draw.nd rfl (.inl rfl) (pe_op op_mod (pe_ix ix_list (pv 0) pe_int (fun _ _ => rfl)) (pv 1)))
        (pss_cons (ps_asg (pe_op op_fdivW (pe_ix ix_list (pv 0) pe_int (fun _ _ => rfl)) (pv 1)) (pg_sub (pv 0) pe_int set_list))
        (pss_one (ps_ret (pv 2)))))
        pss_nil)
      (pss_cons (ps_set (i := 3) sc_law_draw.nd rfl (.inl rfl) (pe_ix ix_list (pv 0) pe_int (fun _ _ => rfl)))
      (pss_cons (ps_set (i := 4) sc_law_draw.nd rfl (.inl rfl) (pe_op op_mod (pe_op op_add (pe_op op_add (pe_ix ix_list (pv 0) pe_int (fun _ _ => rfl)) (pe_op op_mul (pe_op op_mul pe_int (pv 3)) (pv 3))) (pe_op op_mul pe_int (pv 3))) pe_int))
      (pss_cons (ps_set (i := 4) sc_law_draw.nd rfl (.inl rfl) (pe_op op_mod (pe_op op_mul (pv 4) (pv 4)) pe_int))
      (pss_one (ps_ret (pe_op op_mod (pe_op op_fdiv (pe_op op_mod (pe_op op_add (pe_op op_mul (pv 4) pe_int) (pe_op op_mul (pv 3) pe_int)) pe_int) pe_int) (pv 1))))))))), ?_⟩
    refine ⟨_, rfl, d, _, 2, _, rfl, rfl, SqL.of h1, rfl, k, 1, rfl, rfl, ?_⟩
    refine ⟨_, rfl, d, _, 2, 2, rfl, rfl, h1, rfl, ?_⟩
    have h2 : (upd H d (.lst [.int a, .int m, .int (k + 1)])) d = some (.lst [.int a, .int m, .int (k + 1)]) := upd_same
    have S1 : SmX d H (upd H d (.lst [.int a, .int m, .int (k + 1)])) := (SmX.refl H).mut
    refine ⟨fun σ' H' => σ' = [some (.ref d), some (.int many), none, none, none] ∧ SmX d H H' ∧ H' d = some (.lst [.int a, .int m, .int (k + 1)]), ?_, fun σ' H1 hM => ?_⟩
    · refine ⟨_, rfl, d, _, 0, _, rfl, rfl, SqL.of h2, rfl, _, _, rfl, rfl, _, rfl, ?_⟩
      refine ite2 (fun e => ?_) (fun e => ⟨rfl, S1, h2⟩)
      refine ⟨_, rfl, d, _, 0, _, rfl, rfl, SqL.of h2, rfl, _, rfl, _, _, rfl, rfl, hm0, ?_⟩
      refine ⟨_, rfl, d, _, 0, _, rfl, rfl, SqL.of h2, rfl, _, rfl, _, _, rfl, rfl, wide_div (b := 60) hm0 (by omega) (by decide) (by decide), ?_⟩
      refine ⟨_, rfl, d, _, 0, 0, rfl, rfl, h2, rfl, ?_⟩
      refine ⟨_, rfl, ?_⟩
      exact q _ _ (Int.emod_nonneg _ (by omega)) (Int.emod_lt_of_pos _ hm0) S1.mut ⟨a / many, m, k + 1, upd_same, Int.ediv_nonneg a0 (by omega), by omega, by omega, m0, m1⟩
    · obtain ⟨rfl, SM, h3⟩ := hM
      refine ⟨_, rfl, d, _, 2, _, rfl, rfl, SqL.of h3, rfl, ?_⟩
      refine ⟨_, rfl, d, _, 1, _, rfl, rfl, SqL.of h3, rfl, _, rfl, _, _, rfl, rfl, .inl ⟨by omega, by omega⟩, _, rfl, _, _, rfl, rfl, .inr ⟨by omega, by omega⟩, _, _, rfl, rfl, _, rfl, _, _, rfl, rfl, .inl ⟨by omega, by omega⟩, _, _, rfl, rfl, _, _, rfl, rfl, (by show (0 : Int) < _; decide), ?_⟩
      generalize hx : (m + 70003 * (k + 1) * (k + 1) + 5003 * (k + 1)) % 2147483543 = x
      have x0 : 0 ≤ x := hx ▸ Int.emod_nonneg _ (by decide)
      have x1 : x < 2147483543 := hx ▸ Int.emod_lt_of_pos _ (by decide)
      refine ⟨_, rfl, _, rfl, _, _, rfl, rfl, .inl ⟨by omega, by omega⟩, _, _, rfl, rfl, (by show (0 : Int) < _; decide), ?_⟩
      generalize hy : x * x % 2147483497 = y
      have y0 : 0 ≤ y := hy ▸ Int.emod_nonneg _ (by decide)
      have y1 : y < 2147483497 := hy ▸ Int.emod_lt_of_pos _ (by decide)
      refine ⟨_, rfl, _, _, rfl, rfl, .inl ⟨by omega, by omega⟩, _, rfl, _, _, rfl, rfl, .inl ⟨by omega, by omega⟩, _, _, rfl, rfl, _, _, rfl, rfl, (by show (0 : Int) < _; decide), ?_⟩
      refine ⟨_, _, rfl, rfl, ⟨by decide, by decide⟩, _, rfl, _, _, rfl, rfl, hm0, ?_⟩
      exact q _ _ (Int.emod_nonneg _ (by omega)) (Int.emod_lt_of_pos _ hm0) SM ⟨a, m, k + 1, h3, a0, by omega, by omega, m0, m1⟩
end
end Far

namespace Far
open PySem PySem.Spec PyProof.Rows L2
/-! ### t[::-1], t a text -/
def revS (z : Str) : Str := ⟨z.cps.toList.reverse.toArray⟩
def tRevS (te : TE) : TE := fun σ H Q => te σ H fun x H1 => ∃ z, x = .str z ∧ z.length ≤ sizeLine ∧ Q (.str (revS z)) H1
theorem fm_congrS {α β : Type} {f g : α → Option β} : ∀ {l : List α}, (∀ x ∈ l, f x = g x) → l.filterMap f = l.filterMap g
  | [], _ => rfl
  | x :: r, h => by
    rw [List.filterMap_cons, List.filterMap_cons, h x (List.mem_cons_self ..), fm_congrS fun y hy => h y (List.mem_cons_of_mem _ hy)]
theorem back_allS {α : Type} : ∀ (l : List α), (List.range l.length).filterMap (fun m => l[l.length - 1 - m]?) = l.reverse := by
  intro l
  have h := PySem.W.krv_range l.length
  have e : (List.range l.length).filterMap (fun m => l[l.length - 1 - m]?) = ((List.range l.length).map fun k => l.length - 1 - k).filterMap (fun j => l[j]?) := by
    rw [List.filterMap_map]
    rfl
  rw [e, h, List.filterMap_reverse]
  congr 1
  have := PySem.W.krv_all l.toArray
  simpa using this
theorem revS_pick (z : Str) : (⟨((Builtin.Str.strSliceIndices none none (-1) z.length).filterMap (z.cps[·]?)).toArray⟩ : Str) = revS z := by
  unfold revS
  rw [picked_rev, List.filterMap_map, ← back_allS z.cps.toList]
  congr 2
  show _ = (List.range z.cps.toList.length).filterMap _
  rw [Array.length_toList]
  refine fm_congrS fun m hm => ?_
  rw [Array.getElem?_toList]
  rfl
theorem pe_revS {X : Cx} {e : Expr} {te : TE} {k : Nat} {p1 p2 p3 pos : Pos} (he : PE X e te) : PE X (.Subscript e (.Slice none none (some (.UnaryOp .USub (.Constant (.int 1) k p1) p2)) p3) pos) (tRevS te) := by
  refine ⟨fun pins s σ H Q I h => ?_⟩
  refine Subscript_ (thn (he.run pins s σ H _ I h) fun v s1 ⟨x, H1, I1, r1, q1⟩ => ?_)
  obtain ⟨z, ex, hz, q⟩ := q1
  subst ex
  obtain ⟨t, rfl⟩ := r1
  have hst : PO X (some (.UnaryOp .USub (.Constant (.int 1) k p1) p2)) (tPart (tUn (rU fun i => .int (-i)) (tC (.int 1)))) := po_some (pe_un un_neg pe_int)
  refine wpAny_Slice (thn (po_none.run pins s1 σ H1 (fun o H2 => o = none ∧ H2 = H1) I1 ⟨rfl, rfl⟩) fun vl s2 ⟨l, H2, I2, pl, el, e2⟩ => ?_)
  subst el e2
  refine thn (po_none.run pins s2 σ H2 (fun o H3 => o = none ∧ H3 = H2) I2 ⟨rfl, rfl⟩) fun vu s3 ⟨u, H3, I3, pu, eu, e3⟩ => ?_
  subst eu e3
  refine thn (hst.run pins s3 σ H3 (fun o H4 => o = some (-1) ∧ H4 = H3) I3 ⟨1, rfl, -1, rfl, rfl, rfl⟩) fun vs s4 ⟨o, H4, I4, ps, eo, e4⟩ => ?_
  subst eo e4
  have I5 : Inv X pins σ H4 { s4 with heap := s4.heap.push { cls := .type "slice", data := .fields #[vl, vu, vs] } } := I4.kept (t' := s4.toks) fun b ob q => Heap.get?_push_of_some _ q
  obtain ⟨l, rfl, hl⟩ := IsPart.raw pl
  obtain ⟨u, rfl, hu⟩ := IsPart.raw pu
  obtain ⟨y, rfl, hy⟩ := IsPart.raw ps
  show wpAny (model X.prog X.w) X.A (subscriptTail e (.Slice none none (some (.UnaryOp .USub (.Constant (.int 1) k p1) p2)) p3) (.str z t) (.ref s4.heap.objs.size)) (EP X pins σ Q) X.xe _
  refine tail_any (ops := [.str z t, .ref s4.heap.objs.size]) (typeIs_str _ _ _) (F.slot_str_getitem.lookup) ?_ (by with_unfolding_all rfl)
  have hl' : l = none := by cases l with
    | none => rfl
    | some _ => cases hl
  have hu' : u = none := by cases u with
    | none => rfl
    | some _ => cases hu
  obtain ⟨⟨y1, y2⟩, rfl⟩ : ∃ p, y = some p := by cases y with
    | none => cases hy
    | some p => exact ⟨p, rfl⟩
  have hy' : y1 = -1 := by
    have := Option.some.inj hy
    first | exact this | exact this.symm
  subst hl' hu' hy'
  refine wpAny_getItem_str_slice (l := none) (u := none) (st := some (-1, y2)) ⟨_, Heap.get?_push_size _ rfl, rfl, rfl⟩ rfl ?_
  show Made.post (if ((-1 : Int) == 1 && (Builtin.Str.strSliceIndices none none (-1) z.length).length == z.length) = true then Made.val (.str z t)
    else Made.str ⟨((Builtin.Str.strSliceIndices none none (-1) z.length).filterMap (z.cps[·]?)).toArray⟩) (EP X pins σ Q) _
  rw [if_neg (by simp), revS_pick]
  refine ⟨?_, .str _, H4, I5.tok _, ⟨_, rfl⟩, q⟩
  show z.cps.toList.reverse.toArray.size ≤ sizeLine
  rw [List.size_toArray, List.length_reverse, Array.length_toList]
  exact hz
end Far

namespace Far
open PySem PySem.Spec PyProof.Rows L2
open C8 (pss_cut tCut)
open SX (S)
/-! ### lists without an item twice -/
theorem nodup_sub_len {α : Type} [DecidableEq α] : ∀ (l m : List α), l.Nodup → (∀ x ∈ l, x ∈ m) → l.length ≤ m.length
  | [], _, _, _ => Nat.zero_le _
  | a :: r, m, h, hs => by
    obtain ⟨h1, h2⟩ := List.nodup_cons.mp h
    have ha : a ∈ m := hs a (List.mem_cons.mpr (.inl rfl))
    have ih := nodup_sub_len r (m.erase a) h2 fun x hx => by
      have ne : x ≠ a := fun e => h1 (e ▸ hx)
      exact (List.mem_erase_of_ne ne).mpr (hs x (List.mem_cons.mpr (.inr hx)))
    have hl := List.length_erase_of_mem ha
    have hp : 0 < m.length := List.length_pos_of_mem ha
    rw [List.length_cons]
    omega
theorem nd_snoc' {α : Type} {l : List α} {x : α} (h : l.Nodup) (hx : x ∉ l) : (l ++ [x]).Nodup := by
  rw [List.nodup_append]
  exact ⟨h, by simp, fun a ha b hb e => hx (by rw [← List.mem_singleton.mp hb, ← e]; exact ha)⟩

/-! ### texts as data -/
theorem strOk_S {l : List Nat} (h : NameOk l) : PyData.strOk (S l) = true := by
  show (l.toArray.all (· < 0x110000)) = true
  rw [← Array.all_toList, List.all_eq_true]
  intro c hc
  have := h.2.2 c hc
  exact decide_eq_true (by omega)
theorem inV_strs (l : List Nat) (ls : List (List Nat)) : inV (.str (S l)) ((ls.map S).map V.str) = decide (l ∈ ls) := by
  induction ls with
  | nil => rfl
  | cons a r ih =>
    show (S a == S l || inV (.str (S l)) ((r.map S).map V.str)) = _
    rw [ih, SX.S_beq_eq]
    by_cases e : a = l
    · subst e
      simp
    · have : l ≠ a := fun z => e z.symm
      simp [e, this]
theorem flat_strs (ls : List (List Nat)) : ((ls.map S).map V.str).all flatV = true := by
  induction ls with
  | nil => rfl
  | cons a r ih => exact ih
theorem strs_at {ls : List (List Nat)} {v : V} (h : v ∈ (ls.map S).map V.str) : ∃ l ∈ ls, v = .str (S l) := by
  obtain ⟨z, hz, rfl⟩ := List.mem_map.mp h
  obtain ⟨l, hl, rfl⟩ := List.mem_map.mp hz
  exact ⟨l, hl, rfl⟩
theorem dp_strs (K : PySem.W.Frag) (H : Hp) : ∀ ls : List (List Nat), DpAll K H ((ls.map S).map V.str) (ls.map fun l => PyData.str (S l))
  | [] => .nil
  | l :: r => .cons (.str _) (dp_strs K H r)
theorem lay_strs : ∀ {ls : List (List Nat)}, (∀ l ∈ ls, NameOk l) → PyData.canLayAll0 (ls.map fun l => PyData.str (S l)) = true
  | [], _ => rfl
  | l :: r, h => by
    show (PyData.strOk (S l) && PyData.canLayAll0 (r.map fun l => PyData.str (S l))) = true
    rw [strOk_S (h l (List.mem_cons.mpr (.inl rfl))), lay_strs fun x hx => h x (List.mem_cons.mpr (.inr hx))]
    rfl
theorem dep_strs : ∀ ls : List (List Nat), PyData.depthAll (ls.map fun l => PyData.str (S l)) = 0
  | [] => rfl
  | l :: r => by
    show max 0 (PyData.depthAll (r.map fun l => PyData.str (S l))) = 0
    rw [dep_strs r]
    rfl
theorem shaped_strs {ls : List (List Nat)} (h : ∀ l ∈ ls, NameOk l) : SeqAt.shaped (.list (ls.map fun l => PyData.str (S l))) = true := by
  show (PyData.canLayAll0 (ls.map fun l => PyData.str (S l)) && decide (PyData.depthAll (ls.map fun l => PyData.str (S l)) + 1 ≤ 64)) = true
  rw [lay_strs h, dep_strs]
  rfl

/-! ### names made otherwise -/
abbrev abc : Str := "abcdefghijklmnopqrstuvwxyz"
theorem abc_at : ∀ k : _root_.Fin 26, atI abc.cps.toList ((k.val : Nat) : Int) = some (97 + k.val) := by decide +kernel
theorem abc_ok : ∀ c ∈ abc.cps.toList, 97 ≤ c ∧ c ≤ 122 := by decide +kernel
theorem abc_len : abc.cps.toList.length = 26 := by decide +kernel
def cand (j : Nat) : List Nat := [97 + j / 26] ++ [97 + j % 26]
theorem cand_inj {i j : Nat} (h : cand i = cand j) : i = j := by
  unfold cand at h
  simp at h
  omega
theorem cand_ok {j : Nat} (hj : j < 600) : NameOk (cand j) := by
  refine ⟨by simp [cand], by simp [cand], fun c hc => ?_⟩
  unfold cand at hc
  simp at hc
  omega
/-- of the names tried so far all but the last are found already -/
structure Tried (ls : List (List Nat)) (t : Nat) (l : List Nat) : Prop where
  ok : NameOk l
  last : t ≠ 0 → l = cand (t - 1)
  old : ∀ j, j + 1 < t → cand j ∈ ls
theorem Tried.lt {ls : List (List Nat)} {t : Nat} {l : List Nat} (h : Tried ls t l) (hl : l ∈ ls) : t ≤ ls.length := by
  have sub : ∀ x ∈ (List.range t).map cand, x ∈ ls := fun x hx => by
    obtain ⟨j, hj, rfl⟩ := List.mem_map.mp hx
    have hj := List.mem_range.mp hj
    by_cases e : j + 1 < t
    · exact h.old j e
    · have e2 : j = t - 1 := by omega
      rw [e2, ← h.last (by omega)]
      exact hl
  have nd : ((List.range t).map cand).Nodup := by
    rw [List.Nodup, List.pairwise_map]
    exact (List.nodup_range (n := t)).imp fun ne e => ne (cand_inj e)
  have := nodup_sub_len _ ls nd sub
  rw [List.length_map, List.length_range] at this
  exact this
theorem Tried.next {ls : List (List Nat)} {t : Nat} {l : List Nat} (h : Tried ls t l) (hl : l ∈ ls) (h30 : ls.length < 100) : Tried ls (t + 1) (cand t) := by
  have hlt := h.lt hl
  refine ⟨cand_ok (by omega), fun _ => rfl, fun j hj => ?_⟩
  by_cases e : j + 1 < t
  · exact h.old j e
  · have e2 : j = t - 1 := by omega
    rw [e2, ← h.last (by omega)]
    exact hl
theorem revS_S (l : List Nat) : revS (S l) = S l.reverse := by
  show (⟨(l.toArray.toList.reverse).toArray⟩ : Str) = _
  rw [List.toList_toArray]
def NamesAt (H : Hp) (p : Addr) (ls : List (List Nat)) : Prop := H p = some (.lst ((ls.map S).map V.str))
end Far

namespace Far
open PySem PySem.Spec PyProof.Rows L2
/-! ### xs[::e], xs a list, e tells 1 or -1 -/
def tStepL (K : PySem.W.Frag) (te ts : TE) : TE := fun σ H Q => te σ H fun x H1 => tPart ts σ H1 fun o H2 => ∃ a xs i, x = .ref a ∧ o = some i ∧ (i = 1 ∨ i = -1) ∧ SqL K H2 a xs ∧ ∀ p, H2 p = none → Q (.ref p) (upd H2 p (.lst (if i = 1 then xs else xs.reverse)))
theorem range_some {α : Type} : ∀ (l : List α), (List.range l.length).filterMap (fun m => l[m]?) = l
  | [] => rfl
  | a :: r => by
    rw [List.length_cons, List.range_succ_eq_map, List.filterMap_cons]
    show a :: ((List.range r.length).map Nat.succ).filterMap _ = _
    rw [List.filterMap_map]
    congr 1
    exact range_some r
theorem pick_one (items : Array Value) : slicePick items none none (some 1) = items := by
  have h := slicePick_cut items.toList none none
  have e : slicePick items none none (some 1) = slicePick items none none none := by rfl
  rw [e]
  rw [Array.toArray_toList] at h
  rw [h]
  have e1 : HT.sIx items.toList.length items.toList.length none = items.toList.length := rfl
  have e2 : HT.sIx items.toList.length 0 none = 0 := rfl
  rw [e1, e2, List.drop_zero, Nat.sub_zero, List.take_length, Array.toArray_toList]
theorem pe_stepL {X : Cx} {e st : Expr} {te ts : TE} {p3 pos : Pos} (he : PE X e te) (hs : PE X st ts) : PE X (.Subscript e (.Slice none none (some st) p3) pos) (tStepL X.K te ts) := by
  refine ⟨fun pins s σ H Q I h => ?_⟩
  refine Subscript_ (thn (he.run pins s σ H _ I h) fun v s1 ⟨x, H1, I1, r1, q1⟩ => ?_)
  have hst : PO X (some st) (tPart ts) := po_some hs
  refine wpAny_Slice (thn (po_none.run pins s1 σ H1 (fun o H2 => o = none ∧ H2 = H1) I1 ⟨rfl, rfl⟩) fun vl s2 ⟨l, H2, I2, pl, el, e2⟩ => ?_)
  subst el e2
  refine thn (po_none.run pins s2 σ H2 (fun o H3 => o = none ∧ H3 = H2) I2 ⟨rfl, rfl⟩) fun vu s3 ⟨u, H3, I3, pu, eu, e3⟩ => ?_
  subst eu e3
  refine thn (hst.run pins s3 σ H3 _ I3 q1) fun vs s4 ⟨o, H4, I4, ps, q2⟩ => ?_
  obtain ⟨a, xs, i, ex, eo, hi, hx, q⟩ := q2
  subst ex eo
  cases r1
  have I5 : Inv X pins σ H4 { s4 with heap := s4.heap.push { cls := .type "slice", data := .fields #[vl, vu, vs] } } := I4.kept (t' := s4.toks) fun b ob q => Heap.get?_push_of_some _ q
  obtain ⟨its, r, ht, hz⟩ := I5.list hx
  have hlen := r.length
  show wpAny (model X.prog X.w) X.A (subscriptTail e (.Slice none none (some st) p3) (.ref a) (.ref s4.heap.objs.size)) (EP X pins σ Q) X.xe { s4 with heap := s4.heap.push { cls := .type "slice", data := .fields #[vl, vu, vs] } }
  refine tail_any (ops := [.ref a, .ref s4.heap.objs.size]) ht.isList.typeIs (PySem.slot_list_getitem.lookup) ?_ (by with_unfolding_all rfl)
  refine wpAny_getItem_list_slice ht.isList (Heap.IsSliceOf.new _ vl vu vs) pl pu ps (by rcases hi with z | z <;> rw [z] <;> decide) ?_ (by rw [List.size_toArray]; omega)
  have q := q _ (I5.hok.fresh (Nat.le_refl _))
  rcases hi with z | z
  · subst z
    rw [if_pos rfl] at q
    rw [pick_one]
    refine ⟨.ref _, _, I5.laid (t' := s4.toks) (o := .lst xs) (fun b ob q => Heap.get?_push_of_some _ q) (Nat.le_refl _) ?_, rfl, q⟩
    exact ⟨hz, _, 0, r, Heap.get?_push_size _ rfl⟩
  · subst z
    rw [if_neg (by decide)] at q
    rw [PySem.W.krv_pick]
    refine ⟨.ref _, _, I5.laid (t' := s4.toks) (o := .lst xs.reverse) (fun b ob q => Heap.get?_push_of_some _ q) (Nat.le_refl _) ?_, rfl, q⟩
    exact ⟨by rw [List.length_reverse]; exact hz, _, 0, r.reverse, Heap.get?_push_size _ rfl⟩
end Far

namespace Far
open PySem PySem.Spec PyProof.Rows L2
open SX (S)
abbrev Nm := List Nat
abbrev Tie := Nm × Nm × Int
/-- places in an order in which each has one tie to those ahead; the ties in that order -/
inductive Grown : List Nm → List Tie → Prop
  | one (a : Nm) : Grown [a] []
  | leaf {os : List Nm} {es : List Tie} {a b : Nm} {k : Int} {e : Tie} : Grown os es → a ∈ os → b ∉ os → e = (a, b, k) ∨ e = (b, a, k) → 1 ≤ k → k ≤ 1000000 → Grown (os ++ [b]) (es ++ [e])
def IsTree (pl : List Nm) (ts : List Tie) : Prop := ∃ os es, Grown os es ∧ pl.Perm os ∧ ts.Perm es
theorem Grown.nodup {os : List Nm} {es : List Tie} (h : Grown os es) : os.Nodup := by
  induction h with
  | one a => simp
  | leaf _ _ hb _ _ _ ih => exact nd_snoc' ih hb
theorem Grown.len {os : List Nm} {es : List Tie} (h : Grown os es) : os.length = es.length + 1 := by
  induction h with
  | one a => rfl
  | leaf _ _ _ _ _ _ ih => rw [List.length_append, List.length_append, ih]; rfl
theorem Grown.ties {os : List Nm} {es : List Tie} (h : Grown os es) : ∀ e ∈ es, e.1 ∈ os ∧ e.2.1 ∈ os ∧ 1 ≤ e.2.2 ∧ e.2.2 ≤ 1000000 := by
  induction h with
  | one a => simp
  | leaf h1 ha hb he k1 k2 ih =>
    intro e hm
    rcases List.mem_append.mp hm with z | z
    · obtain ⟨a1, a2, a3⟩ := ih e z
      exact ⟨List.mem_append_left _ a1, List.mem_append_left _ a2, a3⟩
    · rw [List.mem_singleton.mp z]
      rcases he with e | e <;> rw [e] <;> simp [ha, k1, k2]
theorem IsTree.nodup {pl : List Nm} {ts : List Tie} (h : IsTree pl ts) : pl.Nodup := by
  obtain ⟨os, es, g, p, _⟩ := h
  exact p.nodup_iff.mpr g.nodup
theorem IsTree.len {pl : List Nm} {ts : List Tie} (h : IsTree pl ts) : pl.length = ts.length + 1 := by
  obtain ⟨os, es, g, p, q⟩ := h
  rw [p.length_eq, q.length_eq]
  exact g.len
theorem IsTree.ties {pl : List Nm} {ts : List Tie} (h : IsTree pl ts) : ∀ e ∈ ts, e.1 ∈ pl ∧ e.2.1 ∈ pl ∧ 1 ≤ e.2.2 ∧ e.2.2 ≤ 1000000 := by
  obtain ⟨os, es, g, p, q⟩ := h
  intro e he
  obtain ⟨a, b, c⟩ := g.ties e (q.mem_iff.mp he)
  exact ⟨p.mem_iff.mpr a, p.mem_iff.mpr b, c⟩

/-! ### as data -/
def tieD (t : Tie) : PyData := .tuple [.str (S t.1), .str (S t.2.1), .int t.2.2]
def strD (l : Nm) : PyData := .str (S l)
def treeD (pl : List Nm) (ts : List Tie) : PyData := .tuple [.tuple (pl.map strD), .tuple (ts.map tieD)]
/-- tuples stand as they stood -/
structure TK (H H' : Hp) : Prop where
  tup : ∀ b xs, H b = some (.tup xs) → H' b = some (.tup xs)
  frz : ∀ b o xs, H b = some (.frz o (.tup xs)) → H' b = some (.frz o (.tup xs))
theorem TK.refl (H : Hp) : TK H H := ⟨fun _ _ h => h, fun _ _ _ h => h⟩
theorem TK.trans {H H1 H2 : Hp} (a : TK H H1) (b : TK H1 H2) : TK H H2 := ⟨fun x o h => b.tup x o (a.tup x o h), fun x o u h => b.frz x o u (a.frz x o u h)⟩
theorem TK.of {H H' : Hp} (a : Same H H') : TK H H' := ⟨fun x _ h => a x _ h, fun x _ _ h => a x _ h⟩
theorem TK.new {H : Hp} {p : Addr} {o : HO} (n : H p = none) : TK H (upd H p o) :=
  ⟨fun b xs h => by rw [upd_ne (ne_of_none h n)]; exact h, fun b u xs h => by rw [upd_ne (ne_of_none h n)]; exact h⟩
theorem TK.mut {H : Hp} {p : Addr} {o : HO} {xs : List V} (n : H p = some (.lst xs)) : TK H (upd H p o) :=
  ⟨fun b ys h => by rw [upd_ne (ne_of h n (by intro z; cases z))]; exact h, fun b u ys h => by rw [upd_ne (ne_of h n (by intro z; cases z))]; exact h⟩
theorem SmX.tk {d : Addr} {H H' : Hp} {xs : List V} (s : SmX d H H') (n : H d = some (.lst xs)) : TK H H' :=
  ⟨fun b ys h => s b _ (ne_of h n (by intro z; cases z)) h, fun b u ys h => s b _ (ne_of h n (by intro z; cases z)) h⟩
theorem DeckAt.lst {H : Hp} {d c : Addr} {n : Nat} (h : DeckAt H d c n) : ∃ xs, H d = some (.lst xs) := by
  obtain ⟨_, _, _, _, _, h1, _⟩ := h
  exact ⟨_, h1⟩
theorem DeckAt.tk {H H' : Hp} {d c : Addr} {n : Nat} (h : DeckAt H d c n) (s : SmX d H H') : TK H H' := by
  obtain ⟨xs, e⟩ := h.lst
  exact s.tk e
mutual
/-- a value that never changes: none, truths, numbers, texts, tuples of such -/
inductive Dt (H : Hp) : V → PyData → Prop
  | non : Dt H .non .none
  | bl (b : Bool) : Dt H (.bl b) (.bool b)
  | int (i : Int) : Dt H (.int i) (.int i)
  | str (x : Str) : Dt H (.str x) (.str x)
  | tup {a : Addr} {xs : List V} {ds : List PyData} : H a = some (.tup xs) → DtAll H xs ds → Dt H (.ref a) (.tuple ds)
  /-- a tuple of texts that is known to have no dict of its own -/
  | tupZ {a : Addr} {pl : List Nm} {ds : List PyData} {o : Obj} : ds = pl.map strD → pl ≠ [] → o.dict = none → H a = some (.frz o (.tup ((pl.map S).map V.str))) → Dt H (.ref a) (.tuple ds)
inductive DtAll (H : Hp) : List V → List PyData → Prop
  | nil : DtAll H [] []
  | cons {v : V} {vs : List V} {d : PyData} {ds : List PyData} : Dt H v d → DtAll H vs ds → DtAll H (v :: vs) (d :: ds)
end
mutual
theorem Dt.keep {H H' : Hp} (t : TK H H') : ∀ {v : V} {d : PyData}, Dt H v d → Dt H' v d
  | _, _, .non => .non
  | _, _, .bl b => .bl b
  | _, _, .int i => .int i
  | _, _, .str x => .str x
  | _, _, .tup a b => .tup (t.tup _ _ a) (DtAll.keep t b)
  | _, _, .tupZ e n d a => .tupZ e n d (t.frz _ _ _ a)
theorem DtAll.keep {H H' : Hp} (t : TK H H') : ∀ {vs : List V} {ds : List PyData}, DtAll H vs ds → DtAll H' vs ds
  | _, _, .nil => .nil
  | _, _, .cons a b => .cons (Dt.keep t a) (DtAll.keep t b)
end
theorem dpa_strs {K : PySem.W.Frag} (H : Hp) : ∀ ls : List Nm, DpAll K H ((ls.map S).map V.str) (ls.map strD)
  | [] => .nil
  | _ :: r => .cons (.str _) (dpa_strs H r)
mutual
theorem Dt.dp {K : PySem.W.Frag} {H : Hp} : ∀ {v : V} {d : PyData}, Dt H v d → Dp K H v d
  | _, _, .non => .non
  | _, _, .bl b => .bl b
  | _, _, .int i => .int i
  | _, _, .str x => .str x
  | _, _, .tup a b => .tup (.inl (.inl a)) (DtAll.dp b)
  | _, _, .tupZ (pl := pl) (o := o) e _ _ a => e ▸ .tup (.inl (.inr ⟨o, a⟩)) (dpa_strs H pl)
theorem DtAll.dp {K : PySem.W.Frag} {H : Hp} : ∀ {vs : List V} {ds : List PyData}, DtAll H vs ds → DpAll K H vs ds
  | _, _, .nil => .nil
  | _, _, .cons a b => .cons (Dt.dp a) (DtAll.dp b)
end
theorem DtAll.len {H : Hp} : ∀ {vs : List V} {ds : List PyData}, DtAll H vs ds → vs.length = ds.length
  | _, _, .nil => rfl
  | _, _, .cons _ t => congrArg (· + 1) (DtAll.len t)
theorem DtAll.app {H : Hp} : ∀ {vs ws : List V} {ds es : List PyData}, DtAll H vs ds → DtAll H ws es → DtAll H (vs ++ ws) (ds ++ es)
  | _, _, _, _, .nil, h => h
  | _, _, _, _, .cons a t, h => .cons a (DtAll.app t h)
theorem DtAll.get {H : Hp} : ∀ {vs : List V} {ds : List PyData} {i : Nat} {v : V}, DtAll H vs ds → vs[i]? = some v → ∃ d, ds[i]? = some d ∧ Dt H v d
  | _, _, _, _, .nil, e => by simp at e
  | _, _, 0, _, .cons a _, e => by
    simp at e
    subst e
    exact ⟨_, rfl, a⟩
  | _, _, i + 1, _, .cons _ t, e => by
    obtain ⟨d, h1, h2⟩ := DtAll.get (i := i) t (by simpa using e)
    exact ⟨d, by simpa using h1, h2⟩
theorem DtAll.del {H : Hp} : ∀ {vs : List V} {ds : List PyData} (i : Nat), DtAll H vs ds → DtAll H (vs.eraseIdx i) (ds.eraseIdx i)
  | _, _, _, .nil => .nil
  | _, _, 0, .cons _ t => t
  | _, _, i + 1, .cons a t => .cons a (DtAll.del i t)
theorem DtAll.strs {H : Hp} : ∀ {ls : List Nm} {vs : List V}, DtAll H vs (ls.map strD) → vs = (ls.map S).map V.str
  | [], _, .nil => rfl
  | l :: r, _, .cons (.str _) t => by
    rw [DtAll.strs (ls := r) t]
    rfl
theorem dt_strs (H : Hp) : ∀ ls : List Nm, DtAll H ((ls.map S).map V.str) (ls.map strD)
  | [] => .nil
  | _ :: r => .cons (.str _) (dt_strs H r)
theorem perm_erase {α : Type} : ∀ {l : List α} {k : Nat} {x : α}, l[k]? = some x → (x :: l.eraseIdx k).Perm l
  | [], _, _, e => by simp at e
  | a :: r, 0, x, e => by
    simp at e
    subst e
    exact .refl _
  | a :: r, k + 1, x, e => by
    have ih := perm_erase (l := r) (k := k) (x := x) (by simpa using e)
    show (x :: a :: r.eraseIdx k).Perm (a :: r)
    exact (List.Perm.swap a x _).trans (ih.cons a)
theorem perm_pick {α : Type} {l1 l2 m : List α} {x : α} {k : Nat} (h : (l1 ++ l2).Perm m) (e : l2[k]? = some x) : ((l1 ++ [x]) ++ l2.eraseIdx k).Perm m := by
  rw [List.append_assoc]
  exact ((List.Perm.refl l1).append (perm_erase e)).trans h
theorem map_erase {α β : Type} (f : α → β) : ∀ (l : List α) (k : Nat), (l.map f).eraseIdx k = (l.eraseIdx k).map f
  | [], _ => rfl
  | _ :: _, 0 => rfl
  | a :: r, k + 1 => congrArg (f a :: ·) (map_erase f r k)
/-- a tuple of texts: of this heap, or one known through and through -/
def TupAt (H : Hp) (a : Addr) (xs : List V) : Prop := H a = some (.tup xs) ∨ ∃ o : Obj, o.dict = none ∧ H a = some (.frz o (.tup xs))
theorem TupAt.sq {K : PySem.W.Frag} {H : Hp} {a : Addr} {xs : List V} (h : TupAt H a xs) : SqT K H a xs := h.elim (fun h => .inl (.inl h)) fun ⟨o, _, h⟩ => .inl (.inr ⟨o, h⟩)
theorem TupAt.ne {H : Hp} {a p : Addr} {xs : List V} (h : TupAt H a xs) (n : H p = none) : a ≠ p := h.elim (fun h => ne_of_none h n) fun ⟨_, _, h⟩ => ne_of_none h n
theorem TupAt.same {H H' : Hp} {a : Addr} {xs : List V} (h : TupAt H a xs) (s : Same H H') : TupAt H' a xs := h.elim (fun h => .inl (s _ _ h)) fun ⟨o, d, h⟩ => .inr ⟨o, d, s _ _ h⟩
theorem TupAt.upd {H : Hp} {a p : Addr} {xs : List V} {o : HO} (h : TupAt H a xs) (n : H p = none) : TupAt (L2.upd H p o) a xs := h.elim (fun q => .inl (by rw [upd_ne (ne_of_none q n)]; exact q)) fun ⟨u, d, q⟩ => .inr ⟨u, d, by rw [upd_ne (ne_of_none q n)]; exact q⟩
theorem TupAt.updN {H : Hp} {a p : Addr} {xs : List V} {o : HO} (h : TupAt H a xs) (n : a ≠ p) : TupAt (L2.upd H p o) a xs := h.elim (fun q => .inl (by rw [upd_ne n]; exact q)) fun ⟨u, d, q⟩ => .inr ⟨u, d, by rw [upd_ne n]; exact q⟩
end Far

namespace Far
open PySem
open SX (S)
/-! ### ways in a tree -/
def Adj (ts : List Tie) (u v : Nm) (k : Int) : Prop := (u, v, k) ∈ ts ∨ (v, u, k) ∈ ts
theorem Adj.symm {ts : List Tie} {u v : Nm} {k : Int} (h : Adj ts u v k) : Adj ts v u k := h.elim .inr .inl
theorem Adj.perm {ts ts' : List Tie} {u v : Nm} {k : Int} (p : ts.Perm ts') (h : Adj ts u v k) : Adj ts' u v k := h.elim (fun h => .inl (p.mem_iff.mp h)) fun h => .inr (p.mem_iff.mp h)
/-- from u to v, no place twice: the places, the length -/
inductive Way (ts : List Tie) (u : Nm) : Nm → List Nm → Int → Prop
  | nil : Way ts u u [u] 0
  | snoc {v w : Nm} {p : List Nm} {L k : Int} : Way ts u v p L → Adj ts v w k → w ∉ p → Way ts u w (p ++ [w]) (L + k)
theorem Way.perm {ts ts' : List Tie} (q : ts.Perm ts') {u v : Nm} {p : List Nm} {L : Int} (h : Way ts u v p L) : Way ts' u v p L := by
  induction h with
  | nil => exact .nil
  | snoc _ ha hn ih => exact .snoc ih (ha.perm q) hn
theorem Way.last {ts : List Tie} {u v : Nm} {p : List Nm} {L : Int} (h : Way ts u v p L) : ∃ q, p = q ++ [v] := by
  cases h with
  | nil => exact ⟨[], rfl⟩
  | snoc _ _ _ => exact ⟨_, rfl⟩
theorem Way.mem {ts : List Tie} {u v : Nm} {p : List Nm} {L : Int} (h : Way ts u v p L) : v ∈ p := by
  obtain ⟨q, rfl⟩ := h.last
  simp
theorem Way.first {ts : List Tie} {u v : Nm} {p : List Nm} {L : Int} (h : Way ts u v p L) : ∃ q, p = u :: q := by
  induction h with
  | nil => exact ⟨[], rfl⟩
  | snoc _ _ _ ih =>
    obtain ⟨q, rfl⟩ := ih
    exact ⟨q ++ [_], rfl⟩
theorem Way.nodup {ts : List Tie} {u v : Nm} {p : List Nm} {L : Int} (h : Way ts u v p L) : p.Nodup := by
  induction h with
  | nil => simp
  | snoc _ _ hn ih => exact nd_snoc' ih hn
theorem Way.inside {ts : List Tie} {pl : List Nm} (ht : ∀ e ∈ ts, e.1 ∈ pl ∧ e.2.1 ∈ pl) {u v : Nm} {p : List Nm} {L : Int} (h : Way ts u v p L) (hu : u ∈ pl) : ∀ x ∈ p, x ∈ pl := by
  induction h with
  | nil =>
    intro x hx
    rw [List.mem_singleton.mp hx]
    exact hu
  | snoc _ ha _ ih =>
    intro x hx
    rcases List.mem_append.mp hx with z | z
    · exact ih x z
    · rw [List.mem_singleton.mp z]
      rcases ha with h | h
      · exact (ht _ h).2
      · exact (ht _ h).1
/-- a place on the way is come to by a way of its own -/
theorem Way.upto {ts : List Tie} {u v x : Nm} {p : List Nm} {L : Int} (h : Way ts u v p L) (hx : x ∈ p) : ∃ q M, Way ts u x q M ∧ ∀ y ∈ q, y ∈ p := by
  induction h with
  | nil =>
    rw [List.mem_singleton.mp hx]
    exact ⟨_, _, .nil, fun _ h => h⟩
  | snoc h1 ha hn ih =>
    rcases List.mem_append.mp hx with z | z
    · obtain ⟨q, M, hq, hs⟩ := ih z
      exact ⟨q, M, hq, fun y hy => List.mem_append_left _ (hs y hy)⟩
    · rw [List.mem_singleton.mp z]
      exact ⟨_, _, .snoc h1 ha hn, fun _ h => h⟩
section leaf
variable {os : List Nm} {es : List Tie} {a b : Nm} {k : Int} {e0 : Tie}
theorem adj_new (hb : ∀ e ∈ es, e.1 ≠ b ∧ e.2.1 ≠ b) (ab : a ≠ b) (he : e0 = (a, b, k) ∨ e0 = (b, a, k)) {x y : Nm} {m : Int} (h : Adj (es ++ [e0]) x y m) :
    (Adj es x y m ∧ x ≠ b ∧ y ≠ b) ∨ (x = a ∧ y = b ∧ m = k) ∨ (x = b ∧ y = a ∧ m = k) := by
  rcases h with h | h <;> rcases List.mem_append.mp h with z | z
  · exact .inl ⟨.inl z, hb _ z⟩
  · have z := List.mem_singleton.mp z
    rcases he with e | e <;> rw [e] at z <;> cases z
    · exact .inr (.inl ⟨rfl, rfl, rfl⟩)
    · exact .inr (.inr ⟨rfl, rfl, rfl⟩)
  · exact .inl ⟨.inr z, (hb _ z).2, (hb _ z).1⟩
  · have z := List.mem_singleton.mp z
    rcases he with e | e <;> rw [e] at z <;> cases z
    · exact .inr (.inr ⟨rfl, rfl, rfl⟩)
    · exact .inr (.inl ⟨rfl, rfl, rfl⟩)
theorem way_old (hb : ∀ e ∈ es, e.1 ≠ b ∧ e.2.1 ≠ b) (ab : a ≠ b) (he : e0 = (a, b, k) ∨ e0 = (b, a, k)) {u v : Nm} {p : List Nm} {L : Int} (h : Way (es ++ [e0]) u v p L) (hu : u ≠ b) :
    (v ≠ b ∧ b ∉ p ∧ Way es u v p L) ∨ (v = b ∧ ∃ q M, p = q ++ [b] ∧ L = M + k ∧ Way es u a q M) := by
  induction h with
  | nil => exact .inl ⟨hu, fun z => hu (List.mem_singleton.mp z).symm, .nil⟩
  | @snoc v w p L m h1 ha hn ih =>
    rcases ih with ⟨hv, hbp, hw⟩ | ⟨hv, q, M, hp, _, hq⟩
    · rcases adj_new hb ab he ha with ⟨ha, _, wb⟩ | ⟨e1, e2, e3⟩ | ⟨e1, _, _⟩
      · refine .inl ⟨wb, fun z => ?_, .snoc hw ha hn⟩
        rcases List.mem_append.mp z with z | z
        · exact hbp z
        · exact wb (List.mem_singleton.mp z).symm
      · subst e1 e2 e3
        exact .inr ⟨rfl, p, L, rfl, rfl, hw⟩
      · exact absurd e1 hv
    · rcases adj_new hb ab he ha with ⟨_, vb, _⟩ | ⟨e1, _, _⟩ | ⟨_, e2, _⟩
      · exact absurd hv vb
      · exact absurd (e1.symm.trans hv) ab
      · refine absurd ?_ hn
        rw [e2, hp]
        exact List.mem_append_left _ hq.mem
theorem way_from (hb : ∀ e ∈ es, e.1 ≠ b ∧ e.2.1 ≠ b) (ab : a ≠ b) (he : e0 = (a, b, k) ∨ e0 = (b, a, k)) {v : Nm} {p : List Nm} {L : Int} (h : Way (es ++ [e0]) b v p L) :
    (v = b ∧ p = [b] ∧ L = 0) ∨ (v ≠ b ∧ ∃ q M, p = b :: q ∧ L = k + M ∧ Way es a v q M) := by
  induction h with
  | nil => exact .inl ⟨rfl, rfl, rfl⟩
  | @snoc v w p L m h1 ha hn ih =>
    rcases ih with ⟨hv, hp, hL⟩ | ⟨hv, q, M, hp, hL, hq⟩
    · rcases adj_new hb ab he ha with ⟨_, vb, _⟩ | ⟨e1, _, _⟩ | ⟨_, e2, e3⟩
      · exact absurd hv vb
      · exact absurd (e1.symm.trans hv) ab
      · subst e2 e3 hp hL
        exact .inr ⟨ab, [w], 0, rfl, by omega, .nil⟩
    · have wb : w ≠ b := fun z => hn (by rw [z, hp]; simp)
      rcases adj_new hb ab he ha with ⟨ha, _, _⟩ | ⟨_, e2, _⟩ | ⟨e1, _, _⟩
      · subst hp hL
        exact .inr ⟨wb, q ++ [w], M + m, rfl, by omega, .snoc hq ha fun z => hn (List.mem_cons.mpr (.inr z))⟩
      · exact absurd e2 wb
      · exact absurd e1 hv
end leaf
theorem Grown.one_way {os : List Nm} {es : List Tie} (g : Grown os es) : ∀ {u v : Nm} {p q : List Nm} {L M : Int}, Way es u v p L → Way es u v q M → p = q ∧ L = M := by
  induction g with
  | one a =>
    intro u v p q L M h1 h2
    cases h1 with
    | nil =>
      cases h2 with
      | nil => exact ⟨rfl, rfl⟩
      | snoc _ ha _ => rcases ha with h | h <;> cases h
    | snoc _ ha _ => rcases ha with h | h <;> cases h
  | @leaf os es a b k e0 g ha hbn he k1 k2 ih =>
    intro u v p q L M h1 h2
    have hb : ∀ e ∈ es, e.1 ≠ b ∧ e.2.1 ≠ b := fun e hm => by
      obtain ⟨i1, i2, _⟩ := g.ties e hm
      exact ⟨fun z => hbn (z ▸ i1), fun z => hbn (z ▸ i2)⟩
    have ab : a ≠ b := fun z => hbn (z ▸ ha)
    by_cases hu : u = b
    · subst hu
      rcases way_from hb ab he h1 with ⟨v1, p1, l1⟩ | ⟨v1, p1, l1, e1, e2, w1⟩ <;> rcases way_from hb ab he h2 with ⟨v2, p2, l2⟩ | ⟨v2, p2, l2, e3, e4, w2⟩
      · exact ⟨p1.trans p2.symm, l1.trans l2.symm⟩
      · exact absurd v1 v2
      · exact absurd v2 v1
      · obtain ⟨z1, z2⟩ := ih w1 w2
        rw [e1, e2, e3, e4, z1, z2]
        exact ⟨rfl, rfl⟩
    · rcases way_old hb ab he h1 hu with ⟨v1, _, w1⟩ | ⟨v1, p1, l1, e1, e2, w1⟩ <;> rcases way_old hb ab he h2 hu with ⟨v2, _, w2⟩ | ⟨v2, p2, l2, e3, e4, w2⟩
      · exact ih w1 w2
      · exact absurd v2 v1
      · exact absurd v1 v2
      · obtain ⟨z1, z2⟩ := ih w1 w2
        rw [e1, e2, e3, e4, z1, z2]
        exact ⟨rfl, rfl⟩
theorem IsTree.one_way {pl : List Nm} {ts : List Tie} (h : IsTree pl ts) {u v : Nm} {p q : List Nm} {L M : Int} (h1 : Way ts u v p L) (h2 : Way ts u v q M) : p = q ∧ L = M := by
  obtain ⟨os, es, g, _, p2⟩ := h
  exact g.one_way (h1.perm p2) (h2.perm p2)
/-- what is closed by ties and holds one place holds all -/
theorem Grown.all_of {os : List Nm} {es : List Tie} (g : Grown os es) : ∀ {F : Nm → Prop}, (∃ u ∈ os, F u) → (∀ x y k, F x → Adj es x y k → F y) → ∀ v ∈ os, F v := by
  induction g with
  | one a =>
    intro F ⟨u, hu, hF⟩ _ v hv
    rw [List.mem_singleton.mp hv, ← List.mem_singleton.mp hu]
    exact hF
  | @leaf os es a b k e0 g ha hbn he k1 k2 ih =>
    intro F ⟨u, hu, hF⟩ cl v hv
    have cab : Adj (es ++ [e0]) a b k := by
      rcases he with e | e
      · exact .inl (by rw [e]; simp)
      · exact .inr (by rw [e]; simp)
    have cl' : ∀ x y m, F x → Adj es x y m → F y := fun x y m hx h => cl x y m hx (h.elim (fun z => .inl (List.mem_append_left _ z)) fun z => .inr (List.mem_append_left _ z))
    have start : ∃ w ∈ os, F w := by
      rcases List.mem_append.mp hu with z | z
      · exact ⟨u, z, hF⟩
      · rw [List.mem_singleton.mp z] at hF
        exact ⟨a, ha, cl b a k hF cab.symm⟩
    have old := ih start cl'
    rcases List.mem_append.mp hv with z | z
    · exact old v z
    · rw [List.mem_singleton.mp z]
      exact cl a b k (old a ha) cab
theorem IsTree.all_of {pl : List Nm} {ts : List Tie} (h : IsTree pl ts) {F : Nm → Prop} {u : Nm} (hu : u ∈ pl) (hF : F u) (cl : ∀ x y k, F x → Adj ts x y k → F y) : ∀ v ∈ pl, F v := by
  obtain ⟨os, es, g, p1, p2⟩ := h
  intro v hv
  exact g.all_of ⟨u, p1.mem_iff.mp hu, hF⟩ (fun x y k hx ha => cl x y k hx (ha.perm p2.symm)) v (p1.mem_iff.mp hv)
theorem IsTree.way {pl : List Nm} {ts : List Tie} (h : IsTree pl ts) {u v : Nm} (hu : u ∈ pl) (hv : v ∈ pl) : ∃ p L, Way ts u v p L := by
  refine h.all_of (F := fun v => ∃ p L, Way ts u v p L) hu ⟨_, _, .nil⟩ (fun x y k ⟨p, L, hw⟩ ha => ?_) v hv
  by_cases hy : y ∈ p
  · obtain ⟨q, M, hq, _⟩ := hw.upto hy
    exact ⟨q, M, hq⟩
  · exact ⟨_, _, .snoc hw ha hy⟩
open Classical in
/-- the way and its length -/
noncomputable def wayOf (ts : List Tie) (u v : Nm) : List Nm × Int := if h : ∃ x : List Nm × Int, Way ts u v x.1 x.2 then h.choose else ([], 0)
noncomputable def path (ts : List Tie) (u v : Nm) : List Nm := (wayOf ts u v).1
noncomputable def dist (ts : List Tie) (u v : Nm) : Int := (wayOf ts u v).2
theorem IsTree.is_way {pl : List Nm} {ts : List Tie} (h : IsTree pl ts) {u v : Nm} {p : List Nm} {L : Int} (w : Way ts u v p L) : path ts u v = p ∧ dist ts u v = L := by
  have hx : ∃ x : List Nm × Int, Way ts u v x.1 x.2 := ⟨(p, L), w⟩
  unfold path dist wayOf
  rw [dif_pos hx]
  exact h.one_way hx.choose_spec w
theorem IsTree.the_way {pl : List Nm} {ts : List Tie} (h : IsTree pl ts) {u v : Nm} (hu : u ∈ pl) (hv : v ∈ pl) : Way ts u v (path ts u v) (dist ts u v) := by
  obtain ⟨p, L, w⟩ := h.way hu hv
  obtain ⟨e1, e2⟩ := h.is_way w
  rw [e1, e2]
  exact w
/-- the way back -/
theorem Way.cons {ts : List Tie} {u v w : Nm} {p : List Nm} {L k : Int} (ha : Adj ts w u k) (h : Way ts u v p L) (hn : w ∉ p) : Way ts w v (w :: p) (k + L) := by
  induction h with
  | nil =>
    have := Way.snoc (ts := ts) (u := w) .nil ha (by simpa using fun z => hn (by rw [z]; simp))
    simpa using this
  | @snoc v x p L m h1 hb hx ih =>
    have hn1 : w ∉ p := fun z => hn (List.mem_append_left _ z)
    have hxw : x ∉ w :: p := fun z => by
      rcases List.mem_cons.mp z with z | z
      · exact hn (by rw [z]; simp)
      · exact hx z
    have := Way.snoc (ih hn1) hb hxw
    rw [← Int.add_assoc]
    exact this
theorem Way.rev {ts : List Tie} {u v : Nm} {p : List Nm} {L : Int} (h : Way ts u v p L) : Way ts v u p.reverse L := by
  induction h with
  | nil => exact .nil
  | @snoc v w p L k h1 ha hn ih =>
    rw [List.reverse_append]
    have := Way.cons ha.symm ih (fun z => hn (List.mem_reverse.mp z))
    rw [Int.add_comm L k]
    exact this
theorem IsTree.dist_symm {pl : List Nm} {ts : List Tie} (h : IsTree pl ts) {u v : Nm} (hu : u ∈ pl) (hv : v ∈ pl) : dist ts u v = dist ts v u ∧ path ts v u = (path ts u v).reverse := by
  obtain ⟨e1, e2⟩ := h.is_way (h.the_way hu hv).rev
  exact ⟨e2.symm, e1⟩
theorem IsTree.dist_self {pl : List Nm} {ts : List Tie} (h : IsTree pl ts) (u : Nm) : dist ts u u = 0 ∧ path ts u u = [u] := by
  obtain ⟨e1, e2⟩ := h.is_way (u := u) .nil
  exact ⟨e2, e1⟩
theorem Way.nonneg {ts : List Tie} (hk : ∀ e ∈ ts, 1 ≤ e.2.2) {u v : Nm} {p : List Nm} {L : Int} (h : Way ts u v p L) : 0 ≤ L ∧ (p.length : Int) ≤ L + 1 := by
  induction h with
  | nil => simp
  | @snoc v w p L k _ ha _ ih =>
    have h1 : 1 ≤ k := ha.elim (fun z => hk _ z) fun z => hk _ z
    rw [List.length_append, List.length_singleton]
    omega
section
open PySem.Spec PyProof.Rows L2
/-! ### dicts by places -/
def dkm (fs : List Nm) (f : Nm → V) : List (Key × V) := fs.map fun l => (Sum.inr (S l), f l)
theorem dkm_get {f : Nm → V} {x : Nm} : ∀ {fs : List Nm}, x ∈ fs → valV (dkm fs f) (Sum.inr (S x)) = some (f x)
  | [], h => by simp at h
  | a :: r, h => by
    show valV ((Sum.inr (S a), f a) :: dkm r f) _ = _
    by_cases e : a = x
    · subst e
      exact valV_pos rfl
    · rw [valV_neg (fun z => e (SX.S_inj (Sum.inr.inj z)))]
      refine dkm_get ?_
      rcases List.mem_cons.mp h with z | z
      · exact absurd z.symm e
      · exact z
theorem dkm_no {f : Nm → V} {x : Nm} : ∀ {fs : List Nm}, x ∉ fs → valV (dkm fs f) (Sum.inr (S x)) = none
  | [], _ => rfl
  | a :: r, h => by
    show valV ((Sum.inr (S a), f a) :: dkm r f) _ = _
    rw [valV_neg (fun z => h (List.mem_cons.mpr (.inl (SX.S_inj (Sum.inr.inj z)).symm)))]
    exact dkm_no fun z => h (List.mem_cons.mpr (.inr z))
theorem dkm_cong {f g : Nm → V} {fs : List Nm} (h : ∀ x ∈ fs, f x = g x) : dkm fs f = dkm fs g := List.map_congr_left fun a ha => by rw [h a ha]
theorem dkm_new {f : Nm → V} {x : Nm} {v : V} {fs : List Nm} (h : x ∉ fs) : putK (dkm fs f) (Sum.inr (S x)) v = dkm (fs ++ [x]) (fun z => if z = x then v else f z) := by
  rw [putK_new _ (dkm_no h)]
  unfold dkm
  rw [List.map_append]
  have e : fs.map (fun l => ((Sum.inr (S l) : Key), f l)) = fs.map (fun l => ((Sum.inr (S l) : Key), if l = x then v else f l)) := List.map_congr_left fun a ha => by rw [if_neg (fun (z : a = x) => h (z ▸ ha))]
  rw [e]
  show _ = _ ++ [((Sum.inr (S x) : Key), if x = x then v else f x)]
  rw [if_pos rfl]
theorem dkm_some {f : Nm → V} {x : Nm} {fs : List Nm} : (valV (dkm fs f) (Sum.inr (S x))).isSome = decide (x ∈ fs) := by
  by_cases h : x ∈ fs
  · rw [dkm_get h, decide_eq_true h]
    rfl
  · rw [dkm_no h, decide_eq_false h]
    rfl
theorem tkD {H : Hp} {D : Addr} {kvs : List (Key × V)} {o : HO} (h : H D = some (.dK kvs)) : TK H (upd H D o) :=
  ⟨fun b xs z => by rw [upd_ne (ne_of z h (by intro q; cases q))]; exact z, fun b u xs z => by rw [upd_ne (ne_of z h (by intro q; cases q))]; exact z⟩
/-! ### a walk through a tree: fs come to, st to be gone on from, ex being gone on from -/
structure Wk (pl : List Nm) (ts : List Tie) (u : Nm) (fs st : List Nm) (prev : Nm → Nm) (ex : Nm → Prop) : Prop where
  nd : fs.Nodup
  sub : ∀ x ∈ fs, x ∈ pl
  sti : ∀ x ∈ st, x ∈ fs
  hu : u ∈ fs
  cl : ∀ x ∈ fs, ∀ y ∈ path ts u x, y ∈ fs
  pr : ∀ x ∈ fs, x ≠ u → prev x ∈ fs ∧ path ts u x = path ts u (prev x) ++ [x]
  done : ∀ x ∈ fs, x ∉ st → ¬ ex x → ∀ y k, Adj ts x y k → y ∈ fs
theorem Wk.start {pl : List Nm} {ts : List Tie} (h : IsTree pl ts) {u : Nm} (hu : u ∈ pl) : Wk pl ts u [u] [u] (fun _ => u) (fun _ => False) := by
  refine ⟨by simp, fun x hx => ?_, fun x hx => hx, by simp, fun x hx => ?_, fun x hx n => ?_, fun x hx n => absurd hx n⟩
  · rw [List.mem_singleton.mp hx]
    exact hu
  · rw [List.mem_singleton.mp hx, (h.dist_self u).2]
    exact fun y hy => hy
  · exact absurd (List.mem_singleton.mp hx) n
theorem Wk.pop {pl : List Nm} {ts : List Tie} {u h : Nm} {fs st : List Nm} {prev : Nm → Nm} (w : Wk pl ts u fs (st ++ [h]) prev (fun _ => False)) : h ∈ fs ∧ Wk pl ts u fs st prev (fun x => x = h) := by
  refine ⟨w.sti h (by simp), w.nd, w.sub, fun x hx => w.sti x (List.mem_append_left _ hx), w.hu, w.cl, w.pr, fun x hx n ne => w.done x hx (fun z => ?_) (fun z => z)⟩
  rcases List.mem_append.mp z with z | z
  · exact n z
  · exact ne (List.mem_singleton.mp z)
theorem Wk.push {pl : List Nm} {ts : List Tie} (tr : IsTree pl ts) {u h y : Nm} {k : Int} {fs st : List Nm} {prev : Nm → Nm} {ex : Nm → Prop} (w : Wk pl ts u fs st prev ex) (hh : h ∈ fs) (ha : Adj ts h y k) (hy : y ∉ fs) :
    dist ts u y = dist ts u h + k ∧ Wk pl ts u (fs ++ [y]) (st ++ [y]) (fun z => if z = y then h else prev z) ex := by
  have wh := tr.the_way (w.sub u w.hu) (w.sub h hh)
  have wy := Way.snoc wh ha fun z => hy (w.cl h hh y z)
  obtain ⟨e1, e2⟩ := tr.is_way wy
  have yp : y ∈ pl := by
    rcases ha with z | z
    · exact (tr.ties _ z).2.1
    · exact (tr.ties _ z).1
  refine ⟨e2, nd_snoc' w.nd hy, fun x hx => ?_, fun x hx => ?_, List.mem_append_left _ w.hu, fun x hx z hz => ?_, fun x hx n => ?_, fun x hx n ne z m hz => ?_⟩
  · rcases List.mem_append.mp hx with z | z
    · exact w.sub x z
    · rw [List.mem_singleton.mp z]
      exact yp
  · rcases List.mem_append.mp hx with z | z
    · exact List.mem_append_left _ (w.sti x z)
    · exact List.mem_append_right _ z
  · rcases List.mem_append.mp hx with q | q
    · exact List.mem_append_left _ (w.cl x q z hz)
    · rw [List.mem_singleton.mp q, e1] at hz
      rcases List.mem_append.mp hz with r | r
      · exact List.mem_append_left _ (w.cl h hh z r)
      · exact List.mem_append_right _ r
  · rcases List.mem_append.mp hx with q | q
    · have xy : x ≠ y := fun e => hy (e ▸ q)
      show (if x = y then h else prev x) ∈ fs ++ [y] ∧ path ts u x = path ts u (if x = y then h else prev x) ++ [x]
      rw [if_neg xy]
      exact ⟨List.mem_append_left _ (w.pr x q n).1, (w.pr x q n).2⟩
    · have xy := List.mem_singleton.mp q
      show (if x = y then h else prev x) ∈ fs ++ [y] ∧ path ts u x = path ts u (if x = y then h else prev x) ++ [x]
      rw [if_pos xy, xy]
      exact ⟨List.mem_append_left _ hh, e1⟩
  · rcases List.mem_append.mp hx with q | q
    · exact List.mem_append_left _ (w.done x q (fun r => n (List.mem_append_left _ r)) ne z m hz)
    · exact absurd (List.mem_append_right _ q) n
theorem Wk.shut {pl : List Nm} {ts : List Tie} {u h : Nm} {fs st : List Nm} {prev : Nm → Nm} (w : Wk pl ts u fs st prev (fun x => x = h)) (hd : ∀ y k, Adj ts h y k → y ∈ fs) : Wk pl ts u fs st prev (fun _ => False) :=
  ⟨w.nd, w.sub, w.sti, w.hu, w.cl, w.pr, fun x hx n _ y k ha => by
    by_cases e : x = h
    · rw [e] at ha
      exact hd y k ha
    · exact w.done x hx n e y k ha⟩
theorem Wk.all {pl : List Nm} {ts : List Tie} (tr : IsTree pl ts) {u : Nm} {fs : List Nm} {prev : Nm → Nm} (w : Wk pl ts u fs [] prev (fun _ => False)) : ∀ x, x ∈ fs ↔ x ∈ pl := fun x =>
  ⟨w.sub x, fun hx => tr.all_of (F := fun z => z ∈ fs) (w.sub u w.hu) w.hu (fun a b k ha hab => w.done a ha (by simp) (fun z => z) b k hab) x hx⟩
structure Fine (pl : List Nm) (ts : List Tie) : Prop where
  tree : IsTree pl ts
  ok : ∀ l ∈ pl, NameOk l
  len : pl.length ≤ 1000
theorem Fine.okT {pl : List Nm} {ts : List Tie} (F : Fine pl ts) {e : Tie} (he : e ∈ ts) : NameOk e.1 ∧ NameOk e.2.1 := by
  obtain ⟨i1, i2, _⟩ := F.tree.ties e he
  exact ⟨F.ok _ i1, F.ok _ i2⟩
theorem Fine.ne {pl : List Nm} {ts : List Tie} (F : Fine pl ts) : pl ≠ [] := fun z => by
  have := F.tree.len
  rw [z] at this
  simp at this
theorem dt_pair {H : Hp} {v : V} {d e : PyData} (h : Dt H v (.tuple [d, e])) (ne : ∀ l : Nm, e ≠ strD l) : ∃ (a : Addr) (x y : V), v = .ref a ∧ H a = some (.tup [x, y]) ∧ Dt H x d ∧ Dt H y e := by
  cases h with
  | tup ha hs =>
    cases hs with
    | cons h1 hr =>
      cases hr with
      | cons h2 hn =>
        cases hn
        exact ⟨_, _, _, rfl, ha, h1, h2⟩
  | @tupZ a pl _ o e _ _ _ =>
    exfalso
    cases pl with
    | nil => cases e
    | cons l r =>
      cases r with
      | nil => cases e
      | cons l2 r2 => exact ne l2 (List.cons.inj (List.cons.inj e).2).1
theorem dt_tup {H : Hp} {v : V} {ds : List PyData} (h : Dt H v (.tuple ds)) (ne : ds ≠ [] → ∃ d ∈ ds, ∀ l : Nm, d ≠ strD l) : ∃ (a : Addr) (xs : List V), v = .ref a ∧ H a = some (.tup xs) ∧ DtAll H xs ds := by
  cases h with
  | tup ha hs => exact ⟨_, _, rfl, ha, hs⟩
  | @tupZ a pl _ o e n _ _ =>
    exfalso
    obtain ⟨d, hd, no⟩ := ne (by rw [e]; simpa using n)
    rw [e] at hd
    obtain ⟨l, _, z⟩ := List.mem_map.mp hd
    exact no l z.symm
theorem dt_names {H : Hp} {v : V} {pl : List Nm} (h : Dt H v (.tuple (pl.map strD))) : ∃ a : Addr, v = .ref a ∧ TupAt H a ((pl.map S).map V.str) := by
  have inj : ∀ {p q : List Nm}, p.map strD = q.map strD → p = q := by
    intro p
    induction p with
    | nil =>
      intro q e
      cases q with
      | nil => rfl
      | cons _ _ => cases e
    | cons a r ih =>
      intro q e
      cases q with
      | nil => cases e
      | cons b t =>
        have e' := List.cons.inj e
        have h1 : S a = S b := PyData.str.inj e'.1
        rw [SX.S_inj h1, ih e'.2]
  generalize hd : pl.map strD = ds at h
  cases h with
  | tup ha hs =>
    subst hd
    rw [DtAll.strs hs] at ha
    exact ⟨_, rfl, .inl ha⟩
  | @tupZ a pl2 _ o e n d ha =>
    rw [← inj (hd.trans e)] at ha
    exact ⟨_, rfl, .inr ⟨o, d, ha⟩⟩
theorem tie_no (e : Tie) (l : Nm) : tieD e ≠ strD l := fun z => nomatch z
/-- a tree in the heap: its parts -/
theorem dt_tree {H : Hp} {v : V} {pl : List Nm} {ts : List Tie} (h : Dt H v (treeD pl ts)) : ∃ (t a b : Addr) (vs : List V), v = .ref t ∧ H t = some (.tup [.ref a, .ref b]) ∧ TupAt H a ((pl.map S).map V.str) ∧ H b = some (.tup vs) ∧ DtAll H vs (ts.map tieD) := by
  obtain ⟨t, x, y, rfl, ht, hx, hy⟩ := dt_pair h fun l z => nomatch z
  obtain ⟨a, rfl, ha⟩ := dt_names hx
  obtain ⟨b, vs, rfl, hb, hv⟩ := dt_tup hy fun n => by
    cases ts with
    | nil => exact absurd rfl n
    | cons e r => exact ⟨tieD e, List.mem_cons_self .., tie_no e⟩
  exact ⟨t, a, b, vs, rfl, ht, ha, hb, hv⟩
theorem dt_tie {H : Hp} {v : V} {e : Tie} (h : Dt H v (tieD e)) : ∃ t : Addr, v = .ref t ∧ H t = some (.tup [.str (S e.1), .str (S e.2.1), .int e.2.2]) := by
  obtain ⟨t, xs, rfl, ht, hs⟩ := dt_tup h fun _ => ⟨.int e.2.2, by simp [tieD], fun l z => nomatch z⟩
  cases hs with
  | cons h1 hr =>
    cases hr with
    | cons h2 hr =>
      cases hr with
      | cons h3 hr =>
        cases hr
        cases h1
        cases h2
        cases h3
        exact ⟨t, rfl, ht⟩
end
end Far

namespace Far
open PySem PySem.Spec PyProof.Rows L2
open C8 (pss_cut tCut)
open SX (S)
/-- the lengths from u to those of fs at fa, those come to at wa, all else as at H0 -/
structure LW (H0 H' : Hp) (fa wa : Addr) (ts : List Tie) (u : Nm) (fs st : List Nm) : Prop where
  same : Same H0 H'
  far : H' fa = some (.dK (dkm fs fun x => .int (dist ts u x)))
  wait : H' wa = some (.lst ((st.map S).map V.str))
theorem LW.ne {H0 H' : Hp} {fa wa : Addr} {ts : List Tie} {u : Nm} {fs st : List Nm} (w : LW H0 H' fa wa ts u fs st) : fa ≠ wa := ne_of w.far w.wait (by intro z; cases z)
theorem LW.new {H0 H' : Hp} {fa wa p : Addr} {o : HO} {ts : List Tie} {u : Nm} {fs st : List Nm} (w : LW H0 H' fa wa ts u fs st) (np : H' p = none) : LW H0 (upd H' p o) fa wa ts u fs st :=
  ⟨same_new w.same np, by rw [upd_ne (ne_of_none w.far np)]; exact w.far, by rw [upd_ne (ne_of_none w.wait np)]; exact w.wait⟩
theorem LW.setW {H0 H' : Hp} {fa wa : Addr} {ts : List Tie} {u : Nm} {fs st st' : List Nm} (w : LW H0 H' fa wa ts u fs st) (n0 : H0 wa = none) : LW H0 (upd H' wa (.lst ((st'.map S).map V.str))) fa wa ts u fs st' :=
  ⟨same_put w.same n0, by rw [upd_ne w.ne]; exact w.far, upd_same⟩
theorem LW.setF {H0 H' : Hp} {fa wa : Addr} {ts : List Tie} {u y : Nm} {n : Int} {fs st : List Nm} (w : LW H0 H' fa wa ts u fs st) (n0 : H0 fa = none) (e : dist ts u y = n) : LW H0 (upd H' fa (.dK (dkm (fs ++ [y]) fun z => if z = y then V.int n else .int (dist ts u z)))) fa wa ts u (fs ++ [y]) st := by
  refine ⟨same_put w.same n0, ?_, by rw [upd_ne w.ne.symm]; exact w.wait⟩
  rw [upd_same]
  refine congrArg (fun z => some (HO.dK z)) (dkm_cong fun z _ => ?_)
  by_cases q : z = y
  · rw [if_pos q, q, e]
  · rw [if_neg q]
/-- the first i ties are gone along from h -/
def NbT (l : List Tie) (h : Nm) (fs : List Nm) : Prop := ∀ e ∈ l, (e.1 = h → e.2.1 ∈ fs) ∧ (e.2.1 = h → e.1 ∈ fs)
theorem NbT.more {l : List Tie} {h y : Nm} {fs : List Nm} (n : NbT l h fs) : NbT l h (fs ++ [y]) := fun e he => ⟨fun z => List.mem_append_left _ ((n e he).1 z), fun z => List.mem_append_left _ ((n e he).2 z)⟩
theorem Wk.popH {pl : List Nm} {ts : List Tie} {u h : Nm} {fs st : List Nm} {prev : Nm → Nm} (w : Wk pl ts u fs (h :: st) prev (fun _ => False)) : h ∈ fs ∧ Wk pl ts u fs st prev (fun x => x = h) := by
  refine ⟨w.sti h (by simp), w.nd, w.sub, fun x hx => w.sti x (List.mem_cons_of_mem _ hx), w.hu, w.cl, w.pr, fun x hx n ne => w.done x hx (fun z => ?_) (fun z => z)⟩
  rcases List.mem_cons.mp z with z | z
  · exact ne z
  · exact n z
abbrev s_law_lengths : Stmt := topS 24
abbrev N_law_lengths : List Str := ["tree", "place", "found", "layer", "behind", "here", "one", "other", "length", "near", "there"]
theorem sc_law_lengths : FnScope N_law_lengths ["tree", "place"] (defScope s_law_lengths) := ⟨rfl, rfl, rfl, by decide +kernel, rfl, by decide +kernel, by decide +kernel⟩
section
variable {P : Program} {w : World} {K : PySem.W.Frag} {mg : Str → Option Value} {base : Heap}
def spLay : Sp := fun vs H Q _ => ∃ (v : V) (pl : List Nm) (ts : List Tie) (u : Nm), vs = [v, .str (S u)] ∧ Dt H v (treeD pl ts) ∧ Fine pl ts ∧ u ∈ pl ∧
  ∀ (H' : Hp) (D : Addr) (fs : List Nm), Same H H' → H D = none → H' D = some (.dK (dkm fs fun x => .int (dist ts u x))) → fs.Nodup → (∀ x, x ∈ fs ↔ x ∈ pl) → Q (.ref D) H'
theorem ok_lay {f : Addr} {fd : FuncData} (F : Fun K "_law_lengths" "_law_lengths" s_law_lengths f fd) : FnOk P w K mg base CX0 2 f fd ["tree", "place"] spLay := by
  refine F.ok sc_law_lengths (fun vs H Q E h => ?_) (fun cdv A outer s H vs Q E hr h => ?_)
  · obtain ⟨v, pl, ts, u, rfl, _⟩ := h
    rfl
  · obtain ⟨v, pl, ts, u, rfl, hd, fine, hu, q⟩ := h
    obtain ⟨t, a, b, vs, rfl, ht, ha, hb, hA⟩ := dt_tree hd
    have tr := fine.tree
    have nd := tr.nodup
    have pl1 := fine.len
    have tl1 := tr.len
    have vl : vs.length = ts.length := by
      have := DtAll.len hA
      rwa [List.length_map] at this
    refine ⟨_, (pss_cons (ps_set (i := 2) sc_law_lengths.nd rfl (.inl rfl) (pe_disp (pps_cons (pv 1) pe_int pps_nil) (by rfl) (by rfl) (fun z => by cases z) (by decide)))
      (pss_cons (ps_set (i := 3) sc_law_lengths.nd rfl (.inl rfl) (pe_lst (pa_cons (pv 1) pa_nil)))
      (pss_cut (ps_while PassesOwn.never (pt_cmpR (op_neD (hd_of hr (by decide))) (pv 3) (pe_lst pa_nil) (nomark _))
        (pss_cons (ps_set (i := 4) sc_law_lengths.nd rfl (.inl rfl) (pe_lst pa_nil))
        (pss_cut (ps_for PassesOwn.never rfl (pi_list (pv 3)) (pg_name (i := 5) sc_law_lengths.nd rfl (.inl rfl))
          (pss_one (ps_for PassesOwn.never rfl (pi_tup (pe_ix ix_tup (pv 0) pe_int (fun _ _ => rfl))) (pg_tup rfl (pgs_cons (pg_name (i := 6) sc_law_lengths.nd rfl (.inl rfl)) (pgs_cons (pg_name (i := 7) sc_law_lengths.nd rfl (.inl rfl)) (pgs_cons (pg_name (i := 8) sc_law_lengths.nd rfl (.inl rfl)) pgs_nil))))
            (pss_one (ps_for PassesOwn.never rfl (pi_list (pe_lst (pa_cons (pe_tup (pa_cons (pv 6) (pa_cons (pv 7) pa_nil))) (pa_cons (pe_tup (pa_cons (pv 7) (pa_cons (pv 6) pa_nil))) pa_nil)))) (pg_tup rfl (pgs_cons (pg_name (i := 9) sc_law_lengths.nd rfl (.inl rfl)) (pgs_cons (pg_name (i := 10) sc_law_lengths.nd rfl (.inl rfl)) pgs_nil)))
              (pss_one (ps_if (PW.pt (pw_and (pt_cmpR op_eq (pv 9) (pv 5) (nomark _)) (pw_and1 (pt_cmp (pc_dnotin (hu_of hr) (pv 10) (pv 2))))))
                (pss_cons (ps_dput (hu_of hr) (pv 2) (pv 10) (pe_op op_add (pe_dget (hu_of hr) (pv 2) (pv 5) (fun _ _ => rfl)) (pv 8)) rfl)
                (pss_one (ps_expr (pe_bm PySem.F.plainAttrs_list PySem.F.slot_list_append PySem.F.type_list_append mt_append (pv 4) (pa_cons (pv 10) pa_nil)))))
                pss_nil)))))))
        (pss_one (ps_set (i := 3) sc_law_lengths.nd rfl (.inl rfl) (pv 4))))))
      (pss_one (ps_ret (pv 2)))))), ?_⟩
    refine fun fa nfa => ⟨_, rfl, upd_same, [(Sum.inr (S u), .int 0)], rfl, (by decide : 1 ≤ 15), ?_⟩
    rw [upd_upd]
    refine ⟨_, rfl, (by show 1 ≤ sizeLine; decide), fun l0 nl0 => ?_⟩
    have fw : fa ≠ l0 := ne_of_none upd_same nl0
    have L0 : LW H (upd (upd H fa (.dK (mergeK [] [((Sum.inr (S u) : Key), V.int 0)]))) l0 (.lst [.str (S u)])) fa l0 ts u [u] [u] := by
      refine ⟨same_new (same_new (Same.refl H) nfa) nl0, ?_, upd_same⟩
      rw [upd_ne fw]
      refine upd_same.trans ?_
      unfold dkm
      rw [List.map_singleton]
      show some (HO.dK [((Sum.inr (S u) : Key), V.int 0)]) = some (HO.dK [((Sum.inr (S u) : Key), V.int (dist ts u u))])
      rw [(tr.dist_self u).1]
    generalize upd (upd H fa (.dK (mergeK [] [((Sum.inr (S u) : Key), V.int 0)]))) l0 (.lst [.str (S u)]) = H1 at L0
    -- the walk
    refine ⟨fun σ2 H2 => ∃ (fs : List Nm) (prev : Nm → Nm) (la : Addr) (x4 x5 x6 x7 x8 x9 x10 : Option V), σ2 = [some (.ref t), some (.str (S u)), some (.ref fa), some (.ref la), x4, x5, x6, x7, x8, x9, x10] ∧ LW H H2 fa la ts u fs [] ∧ Wk pl ts u fs [] prev (fun _ => False), ?_, fun σ2 H2 hM => ?_⟩
    rotate_left
    · obtain ⟨fs, prev, la, x4, x5, x6, x7, x8, x9, x10, rfl, L2', wk⟩ := hM
      exact ⟨_, rfl, q H2 fa fs L2'.same nfa L2'.far wk.nd (wk.all tr)⟩
    · refine ⟨fun m σ2 H2 => ∃ (fs L : List Nm) (prev : Nm → Nm) (la : Addr) (x4 x5 x6 x7 x8 x9 x10 : Option V), σ2 = [some (.ref t), some (.str (S u)), some (.ref fa), some (.ref la), x4, x5, x6, x7, x8, x9, x10] ∧ LW H H2 fa la ts u fs L ∧ Wk pl ts u fs L prev (fun _ => False) ∧ L.length ≤ fs.length ∧ 2 * fs.length + m = 2 * pl.length + L.length,
        ⟨2 * pl.length - 1, [u], [u], fun _ => u, l0, none, none, none, none, none, none, none, rfl, L0, Wk.start tr hu, Nat.le_refl _, by have := List.length_pos_of_mem hu; simp; omega⟩, ?_⟩
      rintro m σ2 H2 ⟨fs, L, prev, la, x4, x5, x6, x7, x8, x9, x10, rfl, L2', wk, sl, em⟩
      refine ⟨_, rfl, Nat.zero_le _, fun p2 np2 => ?_⟩
      have L3 := L2'.new (o := .lst []) np2
      have ok : ∀ l ∈ L, NameOk l := fun l hl => fine.ok l (wk.sub l (wk.sti l hl))
      refine ⟨_, _, .lst (SqL.of L3.wait) (dp_strs _ _ L), .lst (SqL.of upd_same) .nil, shaped_strs ok, rfl, _, rfl, ?_⟩
      refine ite2 (fun e1 => ?_) (fun e1 => ?_)
      rotate_left
      · have st0 : L = [] := by
          cases L with
          | nil => rfl
          | cons a r => exact absurd rfl e1
        subst st0
        exact ⟨fs, prev, la, _, _, _, _, _, _, _, rfl, L3, wk⟩
      · have Lpos : 0 < L.length := by
          cases L with
          | nil => exact absurd e1 (by decide)
          | cons a r => simp
        have fl := nodup_sub_len fs pl wk.nd wk.sub
        refine ⟨fun σ' H'' => ∃ (fs' L' : List Nm) (prev' : Nm → Nm) (la' : Addr) (x4 x5 x6 x7 x8 x9 x10 : Option V), σ' = [some (.ref t), some (.str (S u)), some (.ref fa), some (.ref la'), x4, x5, x6, x7, x8, x9, x10] ∧ LW H H'' fa la' ts u fs' L' ∧ Wk pl ts u fs' L' prev' (fun _ => False) ∧ fs'.length = fs.length + L'.length, ?_, ?_⟩
        · rintro σ' H'' ⟨fs', L', prev', la', y4, y5, y6, y7, y8, y9, y10, e1, e2, e7, e8⟩
          have fl' := nodup_sub_len fs' pl e7.nd e7.sub
          exact ⟨2 * pl.length + L'.length - 2 * fs'.length, by omega, fs', L', prev', la', y4, y5, y6, y7, y8, y9, y10, e1, e2, e7, by omega, by omega⟩
        generalize upd H2 p2 (.lst []) = H3 at L3
        refine ⟨Nat.zero_le _, fun be nbe => ?_⟩
        have hla := L3.wait
        have lb : la ≠ be := ne_of_none hla nbe
        have be0 : H be = none := L3.same.free nbe
        have LB : LW H (upd H3 be (.lst [])) fa be ts u fs [] := ⟨same_new L3.same nbe, by rw [upd_ne (ne_of_none L3.far nbe)]; exact L3.far, upd_same⟩
        have hla2 : (upd H3 be (.lst [])) la = some (.lst ((L.map S).map V.str)) := by rw [upd_ne lb]; exact hla
        generalize upd H3 be (.lst []) = H4 at LB hla2
        refine ⟨fun σ' H'' => ∃ (fs' bh : List Nm) (prev' : Nm → Nm) (x5 x6 x7 x8 x9 x10 : Option V), σ' = [some (.ref t), some (.str (S u)), some (.ref fa), some (.ref la), some (.ref be), x5, x6, x7, x8, x9, x10] ∧ LW H H'' fa be ts u fs' bh ∧ Wk pl ts u fs' bh prev' (fun _ => False) ∧ fs'.length = fs.length + bh.length, ?_, fun σ' H'' hM => ?_⟩
        rotate_left
        · obtain ⟨fs', bh, prev', y5, y6, y7, y8, y9, y10, rfl, LE, wkE, lE⟩ := hM
          exact ⟨_, rfl, fs', bh, prev', be, _, _, _, _, _, _, _, rfl, LE, wkE, lE⟩
        · refine ⟨_, rfl, la, rfl, ⟨_, SqL.of hla2⟩, for_list (K := K) (a := la) (xs := (L.map S).map V.str) (fun i σ' H'' => ∃ (fs' bh : List Nm) (prev' : Nm → Nm) (x5 x6 x7 x8 x9 x10 : Option V), σ' = [some (.ref t), some (.str (S u)), some (.ref fa), some (.ref la), some (.ref be), x5, x6, x7, x8, x9, x10] ∧ LW H H'' fa be ts u fs' bh ∧ H'' la = some (.lst ((L.map S).map V.str)) ∧ Wk pl ts u fs' (L.drop i ++ bh) prev' (fun _ => False) ∧ fs'.length = fs.length + bh.length)
            ⟨fs, [], prev, x5, x6, x7, x8, x9, x10, rfl, LB, hla2, by rw [List.drop_zero, List.append_nil]; exact wk, rfl⟩ (fun i σ' H'' _ hP => ?_) (fun i x σ' H'' hi hP => ?_) (fun σ' H'' hP => ?_)⟩
          · obtain ⟨_, _, _, _, _, _, _, _, _, _, _, h, _⟩ := hP
            exact SqL.of h
          · obtain ⟨fs1, bh1, prev1, y5, y6, y7, y8, y9, y10, rfl, L4, hla4, wk4, em4⟩ := hP
            rw [List.getElem?_map, List.getElem?_map] at hi
            cases eh : L[i]? with
            | none => rw [eh] at hi; cases hi
            | some h =>
              rw [eh] at hi
              have ex : x = .str (S h) := (Option.some.inj hi).symm
              subst ex
              obtain ⟨iL, ehL⟩ := List.getElem?_eq_some_iff.mp eh
              rw [List.drop_eq_getElem_cons iL, ehL, List.cons_append] at wk4
              obtain ⟨hh, wk1⟩ := wk4.popH
              generalize L.drop (i + 1) = R at wk1
              -- the ties
              refine ⟨_, rfl, t, _, 1, .ref b, rfl, rfl, SqT.of (L4.same _ _ ht), atI_nat (j := 1) rfl, b, rfl, ⟨_, SqT.of (L4.same _ _ hb)⟩, for_tup (K := K) (a := b) (xs := vs) (fun i σ' H'' => ∃ (fs' bh : List Nm) (prev' : Nm → Nm) (x6 x7 x8 x9 x10 : Option V), σ' = [some (.ref t), some (.str (S u)), some (.ref fa), some (.ref la), some (.ref be), some (.str (S h)), x6, x7, x8, x9, x10] ∧ LW H H'' fa be ts u fs' bh ∧ H'' la = some (.lst ((L.map S).map V.str)) ∧ Wk pl ts u fs' (R ++ bh) prev' (fun x => x = h) ∧ fs'.length = fs.length + bh.length ∧ h ∈ fs' ∧ NbT (ts.take i) h fs')
                ⟨fs1, bh1, prev1, y6, y7, y8, y9, y10, rfl, L4, hla4, wk1, em4, hh, fun e he => (by cases he)⟩ (fun i σ' H'' _ hP => ?_) (fun i x σ' H'' hi hP => ?_) (fun σ' H'' hP => ?_)⟩
              · obtain ⟨_, _, _, _, _, _, _, _, _, L5, _⟩ := hP
                exact SqT.of (L5.same _ _ hb)
              · obtain ⟨fs', bh, prev', y6, y7, y8, y9, y10, rfl, L5, hla5, wk5, em5, hh5, nb5⟩ := hP
                obtain ⟨d, hd', hx⟩ := DtAll.get hA hi
                rw [List.getElem?_map] at hd'
                cases ee : ts[i]? with
                | none =>
                  rw [ee] at hd'
                  cases hd'
                | some e =>
                  rw [ee] at hd'
                  have ed : d = tieD e := (Option.some.inj hd').symm
                  subst ed
                  obtain ⟨g, rfl, hg⟩ := dt_tie hx
                  have hem : e ∈ ts := List.mem_of_getElem? ee
                  have et : ts.take (i + 1) = ts.take i ++ [e] := by
                    rw [List.take_add_one, ee]
                    rfl
                  refine ⟨g, _, rfl, SqT.of (L5.same _ _ hg), rfl, _, _, rfl, _, _, rfl, _, _, rfl, rfl, ?_⟩
                  -- the two ways about
                  refine ⟨_, rfl, _, rfl, (by show 2 ≤ sizeLine; decide), fun c1 nc1 => ?_⟩
                  have L6 := L5.new (o := .tup [.str (S e.1), .str (S e.2.1)]) nc1
                  have hla6 := same_new (o := .tup [.str (S e.1), .str (S e.2.1)]) (Same.refl H'') nc1 _ _ hla5
                  refine ⟨_, rfl, _, rfl, (by show 2 ≤ sizeLine; decide), fun c2 nc2 => ?_⟩
                  have L7 := L6.new (o := .tup [.str (S e.2.1), .str (S e.1)]) nc2
                  have hla7 := same_new (o := .tup [.str (S e.2.1), .str (S e.1)]) (Same.refl _) nc2 _ _ hla6
                  refine ⟨(by show 2 ≤ sizeLine; decide), fun c3 nc3 => ?_⟩
                  have cb : c3 ≠ be := fun z => by
                    have := L7.wait
                    rw [← z, nc3] at this
                    cases this
                  have L8 := L7.new (o := .lst [.ref c1, .ref c2]) nc3
                  have hla8 := same_new (o := .lst [.ref c1, .ref c2]) (Same.refl _) nc3 _ _ hla7
                  have h1 : (upd (upd (upd H'' c1 (.tup [.str (S e.1), .str (S e.2.1)])) c2 (.tup [.str (S e.2.1), .str (S e.1)])) c3 (.lst [.ref c1, .ref c2])) c1 = some (.tup [.str (S e.1), .str (S e.2.1)]) := ((TK.new nc2).trans (TK.new nc3)).tup _ _ upd_same
                  have h2 : (upd (upd (upd H'' c1 (.tup [.str (S e.1), .str (S e.2.1)])) c2 (.tup [.str (S e.2.1), .str (S e.1)])) c3 (.lst [.ref c1, .ref c2])) c2 = some (.tup [.str (S e.2.1), .str (S e.1)]) := (TK.new nc3).tup _ _ upd_same
                  have h3 : (upd (upd (upd H'' c1 (.tup [.str (S e.1), .str (S e.2.1)])) c2 (.tup [.str (S e.2.1), .str (S e.1)])) c3 (.lst [.ref c1, .ref c2])) c3 = some (.lst [.ref c1, .ref c2]) := upd_same
                  generalize upd (upd (upd H'' c1 (.tup [.str (S e.1), .str (S e.2.1)])) c2 (.tup [.str (S e.2.1), .str (S e.1)])) c3 (.lst [.ref c1, .ref c2]) = H8 at L8 h1 h2 h3 hla8
                  refine ⟨c3, rfl, ⟨_, SqL.of h3⟩, for_list (K := K) (a := c3) (xs := [.ref c1, .ref c2]) (fun j σ' H9 => ∃ (fs' bh : List Nm) (prev' : Nm → Nm) (x9 x10 : Option V), σ' = [some (.ref t), some (.str (S u)), some (.ref fa), some (.ref la), some (.ref be), some (.str (S h)), some (.str (S e.1)), some (.str (S e.2.1)), some (.int e.2.2), x9, x10] ∧ LW H H9 fa be ts u fs' bh ∧ H9 la = some (.lst ((L.map S).map V.str)) ∧ H9 c3 = some (.lst [.ref c1, .ref c2]) ∧ TK H8 H9 ∧ Wk pl ts u fs' (R ++ bh) prev' (fun x => x = h) ∧ fs'.length = fs.length + bh.length ∧ h ∈ fs' ∧ NbT (ts.take i) h fs' ∧ (1 ≤ j → e.1 = h → e.2.1 ∈ fs') ∧ (2 ≤ j → e.2.1 = h → e.1 ∈ fs'))
                    ⟨fs', bh, prev', y9, y10, rfl, L8, hla8, h3, TK.refl _, wk5, em5, hh5, nb5, fun z => absurd z (by omega), fun z => absurd z (by omega)⟩ (fun j σ' H9 _ hP => ?_) (fun j x σ' H9 hj hP => ?_) (fun σ' H9 hP => ?_)⟩
                  · obtain ⟨_, _, _, _, _, _, _, _, h, _⟩ := hP
                    exact SqL.of h
                  · clear wk5 em5 hh5 nb5 L5 L6 L7 L8 hla5 hla6 hla7 hla8
                    clear fs' bh prev'
                    obtain ⟨fs', bh, prev', y9, y10, rfl, L9, hla9, hc9, tk9, wk9, em9, hh9, nb9, n1, n2⟩ := hP
                    obtain ⟨cc, pp, qq, rfl, hcc, hpq⟩ : ∃ (cc : Addr) (pp qq : Nm), x = .ref cc ∧ H8 cc = some (.tup [.str (S pp), .str (S qq)]) ∧ ((j = 0 ∧ pp = e.1 ∧ qq = e.2.1) ∨ (j = 1 ∧ pp = e.2.1 ∧ qq = e.1)) := by
                      match j, hj with
                      | 0, hj => exact ⟨c1, _, _, (Option.some.inj hj).symm, h1, .inl ⟨rfl, rfl, rfl⟩⟩
                      | 1, hj => exact ⟨c2, _, _, (Option.some.inj hj).symm, h2, .inr ⟨rfl, rfl, rfl⟩⟩
                    have adj : Adj ts pp qq e.2.2 := by
                      rcases hpq with ⟨_, z1, z2⟩ | ⟨_, z1, z2⟩ <;> rw [z1, z2]
                      · exact .inl hem
                      · exact .inr hem
                    have fl' := nodup_sub_len fs' pl wk9.nd wk9.sub
                    have szf : ∀ f : Nm → V, (dkm fs' f).length < sizeLine := fun f => by
                      unfold dkm
                      rw [List.length_map]
                      exact sz_lt (by omega)
                    have nx : ∀ fs2 : List Nm, (∀ x ∈ fs', x ∈ fs2) → (pp = h → qq ∈ fs2) → NbT (ts.take i) h fs2 ∧ (1 ≤ j + 1 → e.1 = h → e.2.1 ∈ fs2) ∧ (2 ≤ j + 1 → e.2.1 = h → e.1 ∈ fs2) := fun fs2 sub hq => by
                      refine ⟨fun e' he' => ⟨fun z => sub _ ((nb9 e' he').1 z), fun z => sub _ ((nb9 e' he').2 z)⟩, fun _ z => ?_, fun z2 z => ?_⟩
                      · rcases hpq with ⟨j0, z1, z2⟩ | ⟨j1, z1, z2⟩
                        · rw [← z2]
                          exact hq (z1.trans z)
                        · exact sub _ (n1 (by omega) z)
                      · rcases hpq with ⟨j0, z1, z2'⟩ | ⟨j1, z1, z2'⟩
                        · omega
                        · rw [← z2']
                          exact hq (z1.trans z)
                    refine ⟨cc, _, rfl, SqT.of (tk9.tup _ _ hcc), rfl, _, _, rfl, _, _, rfl, rfl, ?_⟩
                    refine ⟨_, rfl, _, rfl, rfl, _, rfl, ?_⟩
                    refine ite2 (fun z1 => ?_) (fun z1 => ?_)
                    · have ph : pp = h := by
                        have := of_decide_eq_true z1
                        exact SX.S_inj (V.str.inj this)
                      refine ⟨_, rfl, _, rfl, fa, _, rfl, DGet.k (k := Sum.inr (S qq)) L9.far, _, rfl, ?_⟩
                      rw [dkm_some]
                      by_cases hy : qq ∈ fs'
                      · rw [decide_eq_true hy]
                        obtain ⟨k1, k2, k3⟩ := nx fs' (fun _ z => z) fun _ => hy
                        exact iteF ⟨fs', bh, prev', _, _, rfl, L9, hla9, hc9, tk9, wk9, em9, hh9, k1, k2, k3⟩
                      · rw [decide_eq_false hy]
                        refine iteT ?_
                        rw [ph] at adj
                        obtain ⟨e1, wk8⟩ := wk9.push tr hh9 adj hy
                        refine ⟨_, rfl, _, rfl, fa, .int (dist ts u h), rfl, by rw [← dkm_get (f := fun x => V.int (dist ts u x)) hh9]; exact DGet.k (k := Sum.inr (S h)) L9.far, _, rfl, _, _, rfl, rfl, _, rfl, _, rfl, fa, _, rfl, DPut.k (k := Sum.inr (S qq)) L9.far (szf _), ?_⟩
                        rw [dkm_new hy]
                        have L10 := L9.setF nfa e1
                        have tk10 := tk9.trans (tkD (o := .dK (dkm (fs' ++ [qq]) fun z => if z = qq then V.int (dist ts u h + e.2.2) else .int (dist ts u z))) L9.far)
                        have hla10 : (upd H9 fa (.dK (dkm (fs' ++ [qq]) fun z => if z = qq then V.int (dist ts u h + e.2.2) else .int (dist ts u z)))) la = some (.lst ((L.map S).map V.str)) := by rw [upd_ne (ne_of hla9 L9.far (by intro z; cases z))]; exact hla9
                        have hc10 : (upd H9 fa (.dK (dkm (fs' ++ [qq]) fun z => if z = qq then V.int (dist ts u h + e.2.2) else .int (dist ts u z)))) c3 = some (.lst [.ref c1, .ref c2]) := by rw [upd_ne (ne_of hc9 L9.far (by intro z; cases z))]; exact hc9
                        generalize upd H9 fa (.dK (dkm (fs' ++ [qq]) fun z => if z = qq then V.int (dist ts u h + e.2.2) else .int (dist ts u z))) = H10 at L10 tk10 hla10 hc10
                        have stl : bh.length ≤ 3000 := by omega
                        refine ⟨_, rfl, .inl ⟨rfl, _, SqL.of L10.wait⟩, _, rfl, be, _, _, rfl, rfl, L10.wait, by rw [List.length_map, List.length_map]; exact sz_lt (by omega), ?_⟩
                        obtain ⟨k1, k2, k3⟩ := nx (fs' ++ [qq]) (fun _ z => List.mem_append_left _ z) fun _ => List.mem_append_right _ (List.mem_singleton.mpr rfl)
                        have ea : (bh.map S).map V.str ++ [V.str (S qq)] = ((bh ++ [qq]).map S).map V.str := by
                          rw [List.map_append, List.map_append]
                          rfl
                        rw [ea]
                        rw [List.append_assoc] at wk8
                        exact ⟨fs' ++ [qq], bh ++ [qq], _, _, _, rfl, L10.setW be0, by rw [upd_ne lb]; exact hla10, by rw [upd_ne cb]; exact hc10, tk10.trans (TK.mut L10.wait), wk8, by rw [List.length_append, List.length_append]; simp; omega, List.mem_append_left _ hh9, k1, k2, k3⟩
                    · have ph : pp ≠ h := fun z => by
                        rw [z] at z1
                        exact z1 (decide_eq_true rfl)
                      obtain ⟨k1, k2, k3⟩ := nx fs' (fun _ z => z) fun z => absurd z ph
                      exact ⟨fs', bh, prev', _, _, rfl, L9, hla9, hc9, tk9, wk9, em9, hh9, k1, k2, k3⟩
                  · obtain ⟨fs', bh, prev', y9, y10, rfl, L9, hla9, hc9, tk9, wk9, em9, hh9, nb9, n1, n2⟩ := hP
                    refine ⟨fs', bh, prev', _, _, _, _, _, rfl, L9, hla9, wk9, em9, hh9, fun e' he' => ?_⟩
                    rw [et] at he'
                    rcases List.mem_append.mp he' with z | z
                    · exact nb9 e' z
                    · rw [List.mem_singleton.mp z]
                      exact ⟨n1 (by simp), n2 (by simp)⟩
              · obtain ⟨fs', bh, prev', y6, y7, y8, y9, y10, rfl, L5, hla5, wk5, em5, hh5, nb5⟩ := hP
                rw [vl, List.take_length] at nb5
                refine ⟨fs', bh, prev', _, _, _, _, _, _, rfl, L5, hla5, wk5.shut fun y k hadj => ?_, em5⟩
                rcases hadj with z | z
                · exact (nb5 _ z).1 rfl
                · exact (nb5 _ z).2 rfl
          · obtain ⟨fs', bh, prev', y5, y6, y7, y8, y9, y10, rfl, LE, _, wkE, lE⟩ := hP
            rw [List.length_map, List.length_map, List.drop_length, List.nil_append] at wkE
            exact ⟨fs', bh, prev', y5, y6, y7, y8, y9, y10, rfl, LE, wkE, lE⟩
end
end Far

namespace Far
open PySem PySem.Spec PyProof.Rows L2
section
variable {X : Cx}
/-- name = {k: v for ..} on one line, the name a local one -/
theorem ps_setDc {i : Nat} {y : Str} {py spos pos : Pos} {kx vx tg iter : Expr} {ifs : List Expr} {scope : Scope} {own : List (Str × Nat)} {wi : TI} {g : TG} {tt : TT} {tk tv : TE}
    (hc : X.calm = true) (hN : X.N.Nodup) (hy : X.N[i]? = some y) (hyl : X.env.scope.names.lookup y = some .local) (hsw : swapsWith (.DictComp kx vx [⟨tg, iter, ifs, 0⟩] scope pos) (some (.Name y py)) spos.line X.env = pure true)
    (hi : PI X tg iter wi) (ok : BlkOk X.N X.env.scope scope own)
    (hg : ∀ (s : Shared) (H : Hp) (C : Addr) (l : List (Str × Addr)) (fp : List Addr), PG (X.blk s H scope (compEnvC scope l C X.env) fp) tg g)
    (ht : ∀ (s : Shared) (H : Hp) (C : Addr) (l : List (Str × Addr)) (fp : List Addr), PTs (X.blk s H scope (compEnvC scope l C X.env) fp) ifs tt)
    (hk : ∀ (s : Shared) (H : Hp) (C : Addr) (l : List (Str × Addr)) (fp : List Addr), PE (X.blk s H scope (compEnvC scope l C X.env) fp) kx tk)
    (hv : ∀ (s : Shared) (H : Hp) (C : Addr) (l : List (Str × Addr)) (fp : List Addr), PE (X.blk s H scope (compEnvC scope l C X.env) fp) vx tv)
    (hs : ∀ x, foldedSetIterable iter X.env x = pure x := by intro _; rfl) : PS X (.Assign [.Name y py] (.DictComp kx vx [⟨tg, iter, ifs, 0⟩] scope pos) spos) (tAsg (tDc wi g tt tk tv (own.map (·.2))) (gName i)) := by
  refine ⟨fun pins s σ H D I h => ?_⟩
  replace h : tDc wi g tt tk tv (own.map (·.2)) σ H (fun v H1 => gName i v σ H1 D.nx) := h
  rw [exec_Assign_Name_used _ _ _ _ hsw]
  refine wpAny_bind (wpAny_standAt (wpAny_bind ?_))
  show wpAny _ X.A (do let _ ← comprehension (.DictComp kx vx [⟨tg, iter, ifs, 0⟩] scope pos) scope X.env (firstIterPos [⟨tg, iter, ifs, 0⟩] pos) newDict false (eval iter X.env) (some (assign (.Name y py) X.env))) _ _ s
  refine wpAny_bind (thn (dc_core (Qf := fun _ s1 => SP X pins D .next s1) hc hN I hi ok hg ht hk hv hs h fun L C s1 m H1 I1 q hn f => ?_) fun _ s1 z => wpAny_pure (wpAny_pure z))
  show wpAny _ _ (assign (.Name y py) X.env (.ref L)) _ _ _
  obtain ⟨f0, f1, f2, f3, f4, f5⟩ := f
  refine wpAny_assign_Name (store_ok2 (v := V.ref L) I1 hN hy (.inl hyl) rfl (fun s2 I2 ⟨a, sb, ha⟩ => ⟨m, hn.sameBut sb ?_, fun h3 sb3 => ?_⟩) (.inr hyl))
  · rcases ha with z | z
    · exact z ▸ f1
    · exact fun e => f4 y a z e.symm
  · exact ⟨_, H1, I2.turned (t' := s2.toks) (fun b o hb e => (sb3.2 b hb).trans e) f0 f1 f3 f4 f5, q⟩
theorem swD_true {kx vx : Expr} {gs : List Comprehension} {scope : Scope} {pos py : Pos} {y : Str} {l : Nat} {env : Env} (hk : env.scope.kind = .function) (hy : env.scope.names.lookup y = some .local) (hl : (py.line == pos.line) = true)
    (ha : (scope.names.any fun (n, k) => n == y && (k == .local || k == .cell)) = false) : swapsWith (.DictComp kx vx gs scope pos) (some (.Name y py)) l env = pure true := by
  have e1 : env.kindOf y = some .local := hy
  have e2 : env.blockKind = .function := by unfold Env.blockKind; rw [hk]; rfl
  unfold swapsWith
  simp only [e2, e1, ha, Expr.pos, hl]
  rfl
end
end Far

namespace Far
open PySem PySem.Spec PyProof.Rows L2
open C8 (pss_cut tCut)
open SX (S)
structure TxtW (mg : Str → Option Value) : Prop where
  tuple : mg "tuple" = none
/-! ### the ties of each place -/
def pairD (x : Nm × Int) : PyData := .tuple [.str (S x.1), .int x.2]
theorem dt_pairD {H : Hp} {v : V} {x : Nm × Int} (h : Dt H v (pairD x)) : ∃ t : Addr, v = .ref t ∧ H t = some (.tup [.str (S x.1), .int x.2]) := by
  obtain ⟨t, a, b, rfl, ht, h1, h2⟩ := dt_pair h fun l z => nomatch z
  cases h1
  cases h2
  exact ⟨t, rfl, ht⟩
/-- at D: for each place a list of its own, of the places tied to it with the ties' lengths -/
structure BesideAt (H : Hp) (D : Addr) (pl : List Nm) (ad : Nm → Addr) (nb : Nm → List (Nm × Int)) : Prop where
  dict : H D = some (.dK (dkm pl fun l => .ref (ad l)))
  each : ∀ l ∈ pl, ∃ vs, H (ad l) = some (.lst vs) ∧ DtAll H vs ((nb l).map pairD)
  inj : ∀ l ∈ pl, ∀ m ∈ pl, ad l = ad m → l = m
def nbAdd (nb : Nm → List (Nm × Int)) (a : Nm) (x : Nm × Int) : Nm → List (Nm × Int) := fun l => if l = a then nb l ++ [x] else nb l
theorem BesideAt.keep {H H' : Hp} {D : Addr} {pl : List Nm} {ad : Nm → Addr} {nb : Nm → List (Nm × Int)} (b : BesideAt H D pl ad nb) (s : Same H H') : BesideAt H' D pl ad nb :=
  ⟨s _ _ b.dict, fun l hl => let ⟨vs, h1, h2⟩ := b.each l hl; ⟨vs, s _ _ h1, DtAll.keep (TK.of s) h2⟩, b.inj⟩
theorem BesideAt.ne {H : Hp} {D : Addr} {pl : List Nm} {ad : Nm → Addr} {nb : Nm → List (Nm × Int)} (b : BesideAt H D pl ad nb) {l : Nm} (hl : l ∈ pl) : ad l ≠ D := by
  obtain ⟨vs, h, _⟩ := b.each l hl
  exact ne_of h b.dict (by intro z; cases z)
theorem BesideAt.add {H : Hp} {D : Addr} {pl : List Nm} {ad : Nm → Addr} {nb : Nm → List (Nm × Int)} (b : BesideAt H D pl ad nb) {a : Nm} (ha : a ∈ pl) {x : Nm × Int} {v : V} {vs : List V} (hv : Dt H v (pairD x)) (hvs : H (ad a) = some (.lst vs)) :
    BesideAt (upd H (ad a) (.lst (vs ++ [v]))) D pl ad (nbAdd nb a x) := by
  have tk : TK H (upd H (ad a) (.lst (vs ++ [v]))) := TK.mut hvs
  refine ⟨by rw [upd_ne (b.ne ha).symm]; exact b.dict, fun l hl => ?_, b.inj⟩
  by_cases e : l = a
  · subst e
    obtain ⟨ws, h1, h2⟩ := b.each l hl
    rw [hvs] at h1
    cases h1
    refine ⟨_, upd_same, ?_⟩
    unfold nbAdd
    rw [if_pos rfl, List.map_append]
    exact DtAll.app (DtAll.keep tk h2) (.cons (Dt.keep tk hv) .nil)
  · obtain ⟨ws, h1, h2⟩ := b.each l hl
    refine ⟨ws, by rw [upd_ne (fun z => e (b.inj l hl a ha z))]; exact h1, ?_⟩
    unfold nbAdd
    rw [if_neg e]
    exact DtAll.keep tk h2
/-- the ties of a place, as the program takes them down -/
def nbOf : List Tie → Nm → List (Nm × Int) := List.foldl (fun nb e => nbAdd (nbAdd nb e.1 (e.2.1, e.2.2)) e.2.1 (e.1, e.2.2)) (fun _ => [])
theorem nbOf_snoc (ts : List Tie) (e : Tie) : nbOf (ts ++ [e]) = nbAdd (nbAdd (nbOf ts) e.1 (e.2.1, e.2.2)) e.2.1 (e.1, e.2.2) := by
  unfold nbOf
  rw [List.foldl_append]
  rfl
theorem list_rec_snoc {α : Type} {P : List α → Prop} (h0 : P []) (h1 : ∀ l x, P l → P (l ++ [x])) : ∀ l, P l := by
  intro l
  have : ∀ r : List α, P r.reverse := by
    intro r
    induction r with
    | nil => exact h0
    | cons x r ih =>
      rw [List.reverse_cons]
      exact h1 _ _ ih
  have q := this l.reverse
  rwa [List.reverse_reverse] at q
theorem nbAdd_mem {nb : Nm → List (Nm × Int)} {a l : Nm} {x y : Nm × Int} : y ∈ nbAdd nb a x l ↔ y ∈ nb l ∨ (l = a ∧ y = x) := by
  unfold nbAdd
  by_cases e : l = a
  · rw [if_pos e, List.mem_append, List.mem_singleton]
    simp [e]
  · rw [if_neg e]
    simp [e]
theorem nbOf_adj (ts : List Tie) : ∀ (l x : Nm) (k : Int), (x, k) ∈ nbOf ts l ↔ Adj ts l x k := by
  induction ts using list_rec_snoc with
  | h0 =>
    intro l x k
    constructor
    · intro h
      cases h
    · intro h
      rcases h with h | h <;> cases h
  | h1 ts e ih =>
    intro l x k
    rw [nbOf_snoc, nbAdd_mem, nbAdd_mem, ih]
    obtain ⟨a, b, m⟩ := e
    constructor
    · rintro ((h | ⟨h1, h2⟩) | ⟨h1, h2⟩)
      · exact h.elim (fun z => .inl (List.mem_append_left _ z)) fun z => .inr (List.mem_append_left _ z)
      · cases h2
        exact .inl (by rw [h1]; simp)
      · cases h2
        exact .inr (by rw [h1]; simp)
    · rintro (h | h) <;> rcases List.mem_append.mp h with z | z
      · exact .inl (.inl (.inl z))
      · have z := List.mem_singleton.mp z
        cases z
        exact .inl (.inr ⟨rfl, rfl⟩)
      · exact .inl (.inl (.inr z))
      · have z := List.mem_singleton.mp z
        cases z
        exact .inr ⟨rfl, rfl⟩
theorem nbAdd_len {nb : Nm → List (Nm × Int)} {a l : Nm} {x : Nm × Int} : (nbAdd nb a x l).length ≤ (nb l).length + 1 := by
  unfold nbAdd
  split
  · rw [List.length_append]
    exact Nat.le_refl _
  · omega
theorem nbOf_len (ts : List Tie) : ∀ l, (nbOf ts l).length ≤ 2 * ts.length := by
  induction ts using list_rec_snoc with
  | h0 => intro l; exact Nat.zero_le _
  | h1 ts e ih =>
    intro l
    rw [nbOf_snoc, List.length_append, List.length_singleton]
    have h1 := nbAdd_len (nb := nbAdd (nbOf ts) e.1 (e.2.1, e.2.2)) (a := e.2.1) (l := l) (x := (e.1, e.2.2))
    have h2 := nbAdd_len (nb := nbOf ts) (a := e.1) (l := l) (x := (e.2.1, e.2.2))
    have h3 := ih l
    omega
/-- another object changes -/
theorem BesideAt.off {H : Hp} {D g : Addr} {o : HO} {pl : List Nm} {ad : Nm → Addr} {nb : Nm → List (Nm × Int)} (b : BesideAt H D pl ad nb) (tk : TK H (upd H g o)) (n : D ≠ g) (na : ∀ l ∈ pl, ad l ≠ g) : BesideAt (upd H g o) D pl ad nb :=
  ⟨by rw [upd_ne n]; exact b.dict, fun l hl => let ⟨vs, h1, h2⟩ := b.each l hl; ⟨vs, by rw [upd_ne (na l hl)]; exact h1, DtAll.keep tk h2⟩, b.inj⟩
abbrev s_ties_of_each : Stmt := topS 8
abbrev N_ties_of_each : List Str := ["tree", "places", "ties", "beside", "one", "other", "length", "place"]
theorem sc_ties_of_each : FnScope N_ties_of_each ["tree"] (defScope s_ties_of_each) := ⟨rfl, rfl, rfl, by decide +kernel, rfl, by decide +kernel, by decide +kernel⟩
section
variable {P : Program} {w : World} {K : PySem.W.Frag} {mg : Str → Option Value} {base : Heap}
def spTies : Sp := fun vs H Q _ => ∃ (v : V) (pl : List Nm) (ts : List Tie), vs = [v] ∧ Dt H v (treeD pl ts) ∧ Fine pl ts ∧ ∀ (H' : Hp) (D : Addr) (ad : Nm → Addr), Same H H' → H D = none → BesideAt H' D pl ad (nbOf ts) → (∀ l ∈ pl, H (ad l) = none) → Q (.ref D) H'
theorem ok_ties_of_each {f : Addr} {fd : FuncData} (F : Fun K "_ties_of_each" "_ties_of_each" s_ties_of_each f fd) : FnOk P w K mg base CX0 1 f fd ["tree"] spTies := by
  refine F.ok sc_ties_of_each (fun vs H Q E h => ?_) (fun cdv A outer s H vs Q E hr h => ?_)
  · obtain ⟨v, pl, ts, rfl, _⟩ := h
    rfl
  · obtain ⟨v, pl, ts, rfl, hd, fine, q⟩ := h
    obtain ⟨t, a, b, vs, rfl, ht, ha, hb, hA⟩ := dt_tree hd
    refine ⟨_, (pss_cons (ps_asg (pv 0) (pg_tup rfl (pgs_cons (pg_name (i := 1) sc_ties_of_each.nd rfl (.inl rfl)) (pgs_cons (pg_name (i := 2) sc_ties_of_each.nd rfl (.inl rfl)) pgs_nil))))
      (pss_cons (ps_setDc (i := 3) (own := [("place", 7)]) (g := gName 7) (tt := tYes) rfl sc_ties_of_each.nd rfl rfl (swD_true rfl rfl rfl (by decide +kernel)) (pi_tup (pv 1)) (blkOk_by (N := N_ties_of_each) (sc := defScope s_ties_of_each) (by decide +kernel)) (fun _ _ _ _ _ => pg_name (i := 7) sc_ties_of_each.nd rfl (Or.inl rfl)) (fun _ _ _ _ _ => pts_nil) (fun _ _ _ _ _ => (pv 7)) (fun _ _ _ _ _ => (pe_lst pa_nil)))
      (pss_cut (ps_for PassesOwn.never rfl (pi_tup (pv 2)) (pg_tup rfl (pgs_cons (pg_name (i := 4) sc_ties_of_each.nd rfl (.inl rfl)) (pgs_cons (pg_name (i := 5) sc_ties_of_each.nd rfl (.inl rfl)) (pgs_cons (pg_name (i := 6) sc_ties_of_each.nd rfl (.inl rfl)) pgs_nil))))
        (pss_cons (ps_expr (pe_bm PySem.F.plainAttrs_list PySem.F.slot_list_append PySem.F.type_list_append mt_append (pe_dget (hu_of hr) (pv 3) (pv 4) (fun _ _ => rfl)) (pa_cons (pe_tup (pa_cons (pv 5) (pa_cons (pv 6) pa_nil))) pa_nil)))
        (pss_one (ps_expr (pe_bm PySem.F.plainAttrs_list PySem.F.slot_list_append PySem.F.type_list_append mt_append (pe_dget (hu_of hr) (pv 3) (pv 5) (fun _ _ => rfl)) (pa_cons (pe_tup (pa_cons (pv 4) (pa_cons (pv 6) pa_nil))) pa_nil))))))
      (pss_one (ps_ret (pv 3)))))), ?_⟩
    have nd := fine.tree.nodup
    have pl1 := fine.len
    have len := fine.tree.len
    have vl : vs.length = ts.length := by
      have := DtAll.len hA
      rwa [List.length_map] at this
    refine ⟨_, rfl, t, _, rfl, SqT.of ht, rfl, _, _, rfl, _, _, rfl, rfl, ?_⟩
    refine ⟨_, rfl, a, rfl, ⟨_, ha.sq⟩, fun D nD => ?_⟩
    have Da : D ≠ a := (ha.ne nD).symm
    refine dc_tup (K := K) (a := a) (xs := (pl.map S).map V.str) (fun i H' => ∃ ad : Nm → Addr, Same H H' ∧ BesideAt H' D (pl.take i) ad (fun _ => []) ∧ ∀ l ∈ pl.take i, H (ad l) = none) ⟨fun _ => 0, same_new (Same.refl H) nD, ⟨upd_same, fun l hl => (by cases hl), fun l hl => (by cases hl)⟩, fun l hl => (by cases hl)⟩ (fun i H' _ hP => ?_) (fun i x H' hi hP => ?_) (fun H' hP => ?_)
    · obtain ⟨_, sm, _⟩ := hP
      exact (ha.same sm).sq
    · obtain ⟨ad, sm, bs, fr⟩ := hP
      rw [List.getElem?_map, List.getElem?_map] at hi
      cases el : pl[i]? with
      | none =>
        rw [el] at hi
        cases hi
      | some l =>
        rw [el] at hi
        have ex : x = .str (S l) := (Option.some.inj hi).symm
        subst ex
        have ln : l ∉ pl.take i := fun hm => by
          obtain ⟨j, hj, ej⟩ := List.mem_take_iff_getElem.mp hm
          obtain ⟨hi', ei⟩ := List.getElem?_eq_some_iff.mp el
          have := (List.getElem_inj nd).mp (ej.trans ei.symm)
          omega
        have et : pl.take (i + 1) = pl.take i ++ [l] := by
          rw [List.take_add_one, el]
          rfl
        refine ⟨rfl, _, rfl, Nat.zero_le _, fun g ng => ?_⟩
        have gD : g ≠ D := (ne_of_none bs.dict ng).symm
        have hD : (upd H' g (.lst [])) D = some (.dK (dkm (pl.take i) fun l => .ref (ad l))) := by
          rw [upd_ne gD.symm]
          exact bs.dict
        refine ⟨_, Sum.inr (S l), rfl, hD, by unfold dkm; rw [List.length_map, List.length_take]; exact sz_lt (by omega), ?_⟩
        rw [dkm_new ln, et]
        have adg : ∀ m ∈ pl.take i, ad m ≠ g := fun m hm => by
          obtain ⟨ws, h1, _⟩ := bs.each m hm
          exact ne_of_none h1 ng
        refine ⟨fun z => if z = l then g else ad z, same_put (same_new sm ng) nD, ⟨?_, fun m hm => ?_, fun m hm m' hm' => ?_⟩, fun m hm => ?_⟩
        · rw [upd_same]
          refine congrArg (fun z => some (HO.dK z)) (dkm_cong fun z _ => ?_)
          by_cases e : z = l <;> simp [e]
        · rcases List.mem_append.mp hm with z | z
          · have ml : m ≠ l := fun e => ln (e ▸ z)
            obtain ⟨ws, h1, h2⟩ := bs.each m z
            refine ⟨ws, ?_, DtAll.keep ((TK.new ng).trans (tkD hD)) h2⟩
            rw [if_neg ml, upd_ne (bs.ne z), upd_ne (adg m z)]
            exact h1
          · rw [List.mem_singleton.mp z, if_pos rfl]
            exact ⟨[], by rw [upd_ne gD]; exact upd_same, .nil⟩
        · rcases List.mem_append.mp hm with z | z <;> rcases List.mem_append.mp hm' with y | y
          · have ml : m ≠ l := fun e => ln (e ▸ z)
            have ml' : m' ≠ l := fun e => ln (e ▸ y)
            rw [if_neg ml, if_neg ml']
            exact bs.inj m z m' y
          · have ml : m ≠ l := fun e => ln (e ▸ z)
            rw [if_neg ml, List.mem_singleton.mp y, if_pos rfl]
            exact fun e => absurd e (adg m z)
          · have ml' : m' ≠ l := fun e => ln (e ▸ y)
            rw [if_neg ml', List.mem_singleton.mp z, if_pos rfl]
            exact fun e => absurd e.symm (adg m' y)
          · rw [List.mem_singleton.mp z, List.mem_singleton.mp y]
            exact fun _ => rfl
        · rcases List.mem_append.mp hm with z | z
          · have ml : m ≠ l := fun e => ln (e ▸ z)
            show H (if m = l then g else ad m) = none
            rw [if_neg ml]
            exact fr m z
          · rw [List.mem_singleton.mp z]
            show H (if l = l then g else ad l) = none
            rw [if_pos rfl]
            exact sm.free ng
    · obtain ⟨ad, sm, bs, fr⟩ := hP
      rw [List.length_map, List.length_map, List.take_length] at bs fr
      refine ⟨fun σ2 H2 => ∃ x4 x5 x6, σ2 = [some (.ref t), some (.ref a), some (.ref b), some (.ref D), x4, x5, x6, none] ∧ Same H H2 ∧ BesideAt H2 D pl ad (nbOf ts), ?_, fun σ2 H2 hM => ?_⟩
      · refine ⟨_, rfl, b, rfl, ⟨_, SqT.of (sm _ _ hb)⟩, for_tup (K := K) (a := b) (xs := vs) (fun i σ2 H2 => ∃ x4 x5 x6, σ2 = [some (.ref t), some (.ref a), some (.ref b), some (.ref D), x4, x5, x6, none] ∧ Same H H2 ∧ BesideAt H2 D pl ad (nbOf (ts.take i)))
          ⟨none, none, none, rfl, sm, bs⟩ (fun i σ2 H2 _ hP => ?_) (fun i x σ2 H2 hi hP => ?_) (fun σ2 H2 hP => ?_)⟩
        · obtain ⟨_, _, _, _, sm, _⟩ := hP
          exact SqT.of (sm _ _ hb)
        · obtain ⟨x4, x5, x6, rfl, sm2, bs2⟩ := hP
          obtain ⟨d, hd, hx⟩ := DtAll.get hA hi
          rw [List.getElem?_map] at hd
          cases ee : ts[i]? with
          | none =>
            rw [ee] at hd
            cases hd
          | some e =>
            rw [ee] at hd
            have ed : d = tieD e := (Option.some.inj hd).symm
            subst ed
            obtain ⟨u, rfl, hu⟩ := dt_tie hx
            have em : e ∈ ts := List.mem_of_getElem? ee
            obtain ⟨i1, i2, k1, k2⟩ := fine.tree.ties e em
            have et : ts.take (i + 1) = ts.take i ++ [e] := by
              rw [List.take_add_one, ee]
              rfl
            have tl : (ts.take i).length ≤ 1000 := by
              rw [List.length_take]
              omega
            refine ⟨u, _, rfl, SqT.of (sm2 _ _ hu), rfl, _, _, rfl, _, _, rfl, _, _, rfl, rfl, ?_⟩
            -- beside[one].append
            obtain ⟨w1, g1, g2⟩ := bs2.each e.1 i1
            have l1 : w1.length = (nbOf (ts.take i) e.1).length := by
              have := DtAll.len g2
              rwa [List.length_map] at this
            have l1' := nbOf_len (ts.take i) e.1
            refine ⟨_, rfl, _, rfl, D, .ref (ad e.1), rfl, by rw [← dkm_get (f := fun l => V.ref (ad l)) i1]; exact DGet.k (k := Sum.inr (S e.1)) bs2.dict, .inl ⟨rfl, _, SqL.of g1⟩, _, rfl, _, rfl, (by show 2 ≤ sizeLine; decide), fun p np => ?_⟩
            have bs3 := bs2.keep (same_new (o := .tup [.str (S e.2.1), .int e.2.2]) (Same.refl H2) np)
            have g1' : (upd H2 p (.tup [.str (S e.2.1), .int e.2.2])) (ad e.1) = some (.lst w1) := by
              rw [upd_ne (ne_of_none g1 np)]
              exact g1
            refine ⟨_, _, _, rfl, rfl, g1', sz_lt (by omega), ?_⟩
            have bs4 := bs3.add i1 (x := (e.2.1, e.2.2)) (v := .ref p) (.tup upd_same (.cons (.str _) (.cons (.int _) .nil))) g1'
            have sm4 : Same H (upd (upd H2 p (.tup [.str (S e.2.1), .int e.2.2])) (ad e.1) (.lst (w1 ++ [.ref p]))) := same_put (same_new sm2 np) (fr _ i1)
            generalize upd (upd H2 p (.tup [.str (S e.2.1), .int e.2.2])) (ad e.1) (.lst (w1 ++ [.ref p])) = H4 at bs4 sm4
            -- beside[other].append
            obtain ⟨w2, g3, g4⟩ := bs4.each e.2.1 i2
            have l2 : w2.length = (nbAdd (nbOf (ts.take i)) e.1 (e.2.1, e.2.2) e.2.1).length := by
              have := DtAll.len g4
              rwa [List.length_map] at this
            have l2' := nbOf_len (ts.take i) e.2.1
            have l2'' := nbAdd_len (nb := nbOf (ts.take i)) (a := e.1) (l := e.2.1) (x := (e.2.1, e.2.2))
            refine ⟨_, rfl, _, rfl, D, .ref (ad e.2.1), rfl, by rw [← dkm_get (f := fun l => V.ref (ad l)) i2]; exact DGet.k (k := Sum.inr (S e.2.1)) bs4.dict, .inl ⟨rfl, _, SqL.of g3⟩, _, rfl, _, rfl, (by show 2 ≤ sizeLine; decide), fun p' np' => ?_⟩
            have bs5 := bs4.keep (same_new (o := .tup [.str (S e.1), .int e.2.2]) (Same.refl H4) np')
            have g3' : (upd H4 p' (.tup [.str (S e.1), .int e.2.2])) (ad e.2.1) = some (.lst w2) := by
              rw [upd_ne (ne_of_none g3 np')]
              exact g3
            refine ⟨_, _, _, rfl, rfl, g3', sz_lt (by omega), ?_⟩
            have bs6 := bs5.add i2 (x := (e.1, e.2.2)) (v := .ref p') (.tup upd_same (.cons (.str _) (.cons (.int _) .nil))) g3'
            refine ⟨_, _, _, rfl, same_put (same_new sm4 np') (fr _ i2), ?_⟩
            rw [et, nbOf_snoc]
            exact bs6
        · obtain ⟨x4, x5, x6, rfl, sm2, bs2⟩ := hP
          rw [vl, List.take_length] at bs2
          exact ⟨_, _, _, rfl, sm2, bs2⟩
      · obtain ⟨x4, x5, x6, rfl, sm2, bs2⟩ := hM
        exact ⟨_, rfl, q H2 D ad sm2 nD bs2 fr⟩
end
end Far

namespace Far
open PySem PySem.Spec PyProof.Rows L2
open C8 (pss_cut tCut)
open SX (S)
/-! ### a walk through a tree: fs come to, st to be gone on from, ex being gone on from -/
abbrev s_walk_from : Stmt := topS 7
abbrev N_walk_from : List Str := ["tree", "start", "beside", "back", "lengths", "ahead", "here", "place", "length"]
theorem sc_walk_from : FnScope N_walk_from ["tree", "start"] (defScope s_walk_from) := ⟨rfl, rfl, rfl, by decide +kernel, rfl, by decide +kernel, by decide +kernel⟩
section
variable {P : Program} {w : World} {K : PySem.W.Frag} {mg : Str → Option Value} {base : Heap}
/-- what a walk from u tells, at q -/
structure Walked (H : Hp) (q bk ln : Addr) (pl : List Nm) (ts : List Tie) (u : Nm) (fs : List Nm) (prev : Nm → Nm) : Prop where
  pair : H q = some (.tup [.ref bk, .ref ln])
  back : H bk = some (.dK (dkm fs fun x => .str (S (prev x))))
  lens : H ln = some (.dK (dkm fs fun x => .int (dist ts u x)))
  all : ∀ x, x ∈ fs ↔ x ∈ pl
  pr : ∀ x ∈ fs, x ≠ u → prev x ∈ fs ∧ path ts u x = path ts u (prev x) ++ [x]
def spWalk : Sp := fun vs H Q _ => ∃ (v : V) (pl : List Nm) (ts : List Tie) (u : Nm), vs = [v, .str (S u)] ∧ Dt H v (treeD pl ts) ∧ Fine pl ts ∧ u ∈ pl ∧ ∀ (H' : Hp) (q bk ln : Addr) (fs : List Nm) (prev : Nm → Nm), Same H H' → Walked H' q bk ln pl ts u fs prev → Q (.ref q) H'
theorem ok_walk_from {f : Addr} {fd : FuncData} (F : Fun K "walk_from" "walk_from" s_walk_from f fd) (C_ties_of_each : Cal P w K mg base 1 "_ties_of_each" spTies) : FnOk P w K mg base CX0 2 f fd ["tree", "start"] spWalk := by
  refine F.ok sc_walk_from (fun vs H Q E h => ?_) (fun cdv A outer s H vs Q E hr h => ?_)
  · obtain ⟨v, pl, ts, u, rfl, _⟩ := h
    rfl
  · obtain ⟨v, pl, ts, u, rfl, hd, fine, hu, q⟩ := h
    refine ⟨_, (pss_cons (ps_set (i := 2) sc_walk_from.nd rfl (.inl rfl) (pe_c C_ties_of_each hr (by decide) rfl (pa_cons (pv 0) pa_nil)))
      (pss_cons (ps_set (i := 3) sc_walk_from.nd rfl (.inl rfl) (pe_disp (pps_cons (pv 1) (pv 1) pps_nil) (by rfl) (by rfl) (fun z => by cases z) (by decide)))
      (pss_cons (ps_set (i := 4) sc_walk_from.nd rfl (.inl rfl) (pe_disp (pps_cons (pv 1) pe_int pps_nil) (by rfl) (by rfl) (fun z => by cases z) (by decide)))
      (pss_cons (ps_set (i := 5) sc_walk_from.nd rfl (.inl rfl) (pe_lst (pa_cons (pv 1) pa_nil)))
      (pss_cut (ps_while PassesOwn.never (pt_truth (pv 5) (by intro _; rfl))
        (pss_cons (ps_set (i := 6) sc_walk_from.nd rfl (.inl rfl) (pe_bm0 PySem.F.plainAttrs_list PySem.F.slot_list_pop PySem.F.type_list_pop mt_pop (pv 5)))
        (pss_one (ps_for PassesOwn.never rfl (pi_list (pe_dget (hu_of hr) (pv 2) (pv 6) (fun _ _ => rfl))) (pg_tup rfl (pgs_cons (pg_name (i := 7) sc_walk_from.nd rfl (.inl rfl)) (pgs_cons (pg_name (i := 8) sc_walk_from.nd rfl (.inl rfl)) pgs_nil)))
          (pss_one (ps_if (pt_cmp (pc_dnotin (hu_of hr) (pv 7) (pv 3)))
            (pss_cons (ps_dput (hu_of hr) (pv 3) (pv 7) (pv 6) rfl)
            (pss_cons (ps_dput (hu_of hr) (pv 4) (pv 7) (pe_op op_add (pe_dget (hu_of hr) (pv 4) (pv 6) (fun _ _ => rfl)) (pv 8)) rfl)
            (pss_one (ps_expr (pe_bm PySem.F.plainAttrs_list PySem.F.slot_list_append PySem.F.type_list_append mt_append (pv 5) (pa_cons (pv 7) pa_nil))))))
            pss_nil))))))
      (pss_one (ps_ret (pe_tup (pa_cons (pv 3) (pa_cons (pv 4) pa_nil)))))))))), ?_⟩
    have tr := fine.tree
    have pl1 := fine.len
    have tl1 := tr.len
    refine ⟨_, rfl, v, pl, ts, rfl, hd, fine, fun H1 D ad S1 nD bs fr => ?_⟩
    -- back, lengths, ahead
    refine fun bk nbk => ⟨_, rfl, _, rfl, upd_same, [(Sum.inr (S u), .str (S u))], rfl, (by decide : 1 ≤ 15), ?_⟩
    rw [upd_upd]
    have S2 := same_new (o := .dK (mergeK [] [((Sum.inr (S u) : Key), V.str (S u))])) S1 nbk
    have bs2 := bs.keep (same_new (o := .dK (mergeK [] [((Sum.inr (S u) : Key), V.str (S u))])) (Same.refl H1) nbk)
    refine fun ln nln => ⟨_, rfl, upd_same, [(Sum.inr (S u), .int 0)], rfl, (by decide : 1 ≤ 15), ?_⟩
    rw [upd_upd]
    have S3 := same_new (o := .dK (mergeK [] [((Sum.inr (S u) : Key), V.int 0)])) S2 nln
    have bs3 := bs2.keep (same_new (o := .dK (mergeK [] [((Sum.inr (S u) : Key), V.int 0)])) (Same.refl _) nln)
    refine ⟨_, rfl, (by show 1 ≤ sizeLine; decide), fun ah nah => ?_⟩
    have S4 := same_new (o := .lst [.str (S u)]) S3 nah
    have bs4 := bs3.keep (same_new (o := .lst [.str (S u)]) (Same.refl _) nah)
    have bkln : bk ≠ ln := ne_of_none upd_same nln
    have bkah : bk ≠ ah := ne_of_none (by rw [upd_ne bkln]; exact upd_same) nah
    have lnah : ln ≠ ah := ne_of_none upd_same nah
    have Dbk : D ≠ bk := ne_of_none bs.dict nbk
    have Dln : D ≠ ln := ne_of_none bs2.dict nln
    have Dah : D ≠ ah := ne_of_none bs3.dict nah
    have bk0 : H bk = none := S1.free nbk
    have ln0 : H ln = none := S2.free nln
    have ah0 : H ah = none := S3.free nah
    have adbk : ∀ l ∈ pl, ad l ≠ bk := fun l hl => let ⟨_, h1, _⟩ := bs.each l hl; ne_of_none h1 nbk
    have adln : ∀ l ∈ pl, ad l ≠ ln := fun l hl => let ⟨_, h1, _⟩ := bs2.each l hl; ne_of_none h1 nln
    have adah : ∀ l ∈ pl, ad l ≠ ah := fun l hl => let ⟨_, h1, _⟩ := bs3.each l hl; ne_of_none h1 nah
    have hbk : (upd (upd (upd H1 bk (.dK (mergeK [] [((Sum.inr (S u) : Key), V.str (S u))]))) ln (.dK (mergeK [] [((Sum.inr (S u) : Key), V.int 0)]))) ah (.lst [.str (S u)])) bk = some (.dK (dkm [u] fun x => .str (S u))) := by
      rw [upd_ne bkah, upd_ne bkln]
      exact upd_same
    have hln : (upd (upd (upd H1 bk (.dK (mergeK [] [((Sum.inr (S u) : Key), V.str (S u))]))) ln (.dK (mergeK [] [((Sum.inr (S u) : Key), V.int 0)]))) ah (.lst [.str (S u)])) ln = some (.dK (dkm [u] fun x => .int (dist ts u x))) := by
      rw [upd_ne lnah]
      refine upd_same.trans ?_
      unfold dkm
      rw [List.map_singleton]
      show some (HO.dK [((Sum.inr (S u) : Key), V.int 0)]) = some (HO.dK [((Sum.inr (S u) : Key), V.int (dist ts u u))])
      rw [(tr.dist_self u).1]
    have hah : (upd (upd (upd H1 bk (.dK (mergeK [] [((Sum.inr (S u) : Key), V.str (S u))]))) ln (.dK (mergeK [] [((Sum.inr (S u) : Key), V.int 0)]))) ah (.lst [.str (S u)])) ah = some (.lst (([u].map S).map V.str)) := upd_same
    generalize upd (upd (upd H1 bk (.dK (mergeK [] [((Sum.inr (S u) : Key), V.str (S u))]))) ln (.dK (mergeK [] [((Sum.inr (S u) : Key), V.int 0)]))) ah (.lst [.str (S u)]) = H4 at S4 bs4 hbk hln hah
    refine ⟨fun σ' H' => ∃ (fs : List Nm) (prev : Nm → Nm) (x6 x7 x8 : Option V), σ' = [some v, some (.str (S u)), some (.ref D), some (.ref bk), some (.ref ln), some (.ref ah), x6, x7, x8] ∧ Same H H' ∧ H' bk = some (.dK (dkm fs fun x => .str (S (prev x)))) ∧ H' ln = some (.dK (dkm fs fun x => .int (dist ts u x))) ∧ Wk pl ts u fs [] prev (fun _ => False), ?_, fun σ' H' hM => ?_⟩
    · refine ⟨fun m σ' H' => ∃ (fs st : List Nm) (prev : Nm → Nm) (x6 x7 x8 : Option V), σ' = [some v, some (.str (S u)), some (.ref D), some (.ref bk), some (.ref ln), some (.ref ah), x6, x7, x8] ∧ Same H H' ∧ BesideAt H' D pl ad (nbOf ts) ∧ H' bk = some (.dK (dkm fs fun x => .str (S (prev x)))) ∧ H' ln = some (.dK (dkm fs fun x => .int (dist ts u x))) ∧ H' ah = some (.lst ((st.map S).map V.str)) ∧ Wk pl ts u fs st prev (fun _ => False) ∧ st.length ≤ fs.length ∧ 2 * fs.length + m = 2 * pl.length + st.length,
        ⟨2 * pl.length - 1, [u], [u], fun _ => u, none, none, none, rfl, S4, bs4, hbk, hln, hah, Wk.start tr hu, Nat.le_refl _, by have := List.length_pos_of_mem hu; simp; omega⟩, ?_⟩
      rintro m σ2 H2 ⟨fs, st, prev, x6, x7, x8, rfl, SM, bs5, hbk5, hln5, hah5, wk, sl, em⟩
      refine ⟨_, rfl, _, .inl ⟨_, SqL.of hah5, rfl⟩, ?_⟩
      rcases List.eq_nil_or_concat st with rfl | ⟨st', h, e⟩
      · exact ⟨fs, prev, x6, x7, x8, rfl, SM, hbk5, hln5, wk⟩
      · rw [List.concat_eq_append] at e
        subst e
        have ne : ((st' ++ [h]).map S).map V.str = (st'.map S).map V.str ++ [.str (S h)] := by
          rw [List.map_append, List.map_append]
          rfl
        rw [ne] at hah5 ⊢
        have nb : (!((st'.map S).map V.str ++ [V.str (S h)]).isEmpty) = true := by simp
        rw [nb]
        refine iteT ?_
        obtain ⟨hh, wk1⟩ := wk.pop
        have hpl := wk1.sub h hh
        have fl := nodup_sub_len fs pl wk.nd wk.sub
        rw [List.length_append, List.length_singleton] at em sl
        obtain ⟨ws, hw1, hw2⟩ := bs5.each h hpl
        have wl : ws.length = (nbOf ts h).length := by
          have := DtAll.len hw2
          rwa [List.length_map] at this
        refine ⟨fun σ' H' => ∃ (fs' st'' : List Nm) (prev' : Nm → Nm) (x6 x7 x8 : Option V), σ' = [some v, some (.str (S u)), some (.ref D), some (.ref bk), some (.ref ln), some (.ref ah), x6, x7, x8] ∧ Same H H' ∧ BesideAt H' D pl ad (nbOf ts) ∧ H' bk = some (.dK (dkm fs' fun x => .str (S (prev' x)))) ∧ H' ln = some (.dK (dkm fs' fun x => .int (dist ts u x))) ∧ H' ah = some (.lst ((st''.map S).map V.str)) ∧ Wk pl ts u fs' st'' prev' (fun _ => False) ∧ fs.length ≤ fs'.length ∧ fs'.length + st'.length = fs.length + st''.length, ?_, ?_⟩
        · rintro σ' H' ⟨fs', st'', prev', y6, y7, y8, e1, e2, e3, e4, e5, e6, e7, e8, e9⟩
          have fl' := nodup_sub_len fs' pl e7.nd e7.sub
          exact ⟨2 * pl.length + st''.length - 2 * fs'.length, by omega, fs', st'', prev', y6, y7, y8, e1, e2, e3, e4, e5, e6, e7, by omega, by omega⟩
        · refine ⟨_, rfl, .inl ⟨rfl, _, SqL.of hah5⟩, ah, _, .str (S h), rfl, rfl, hah5, by simp, ?_⟩
          rw [List.dropLast_concat]
          have hbk6 : (upd H2 ah (.lst ((st'.map S).map V.str))) bk = some (.dK (dkm fs fun x => .str (S (prev x)))) := by rw [upd_ne bkah]; exact hbk5
          have hln6 : (upd H2 ah (.lst ((st'.map S).map V.str))) ln = some (.dK (dkm fs fun x => .int (dist ts u x))) := by rw [upd_ne lnah]; exact hln5
          have hw6 : (upd H2 ah (.lst ((st'.map S).map V.str))) (ad h) = some (.lst ws) := by rw [upd_ne (adah h hpl)]; exact hw1
          have SM6 : Same H (upd H2 ah (.lst ((st'.map S).map V.str))) := same_put SM ah0
          have bs6 : BesideAt (upd H2 ah (.lst ((st'.map S).map V.str))) D pl ad (nbOf ts) := bs5.off (TK.mut hah5) Dah adah
          have hah6 : (upd H2 ah (.lst ((st'.map S).map V.str))) ah = some (.lst ((st'.map S).map V.str)) := upd_same
          generalize upd H2 ah (.lst ((st'.map S).map V.str)) = H6 at hbk6 hln6 hw6 SM6 bs6 hah6
          refine ⟨_, rfl, _, rfl, D, .ref (ad h), rfl, by rw [← dkm_get (f := fun l => V.ref (ad l)) hpl]; exact DGet.k (k := Sum.inr (S h)) bs6.dict, ad h, rfl, ⟨_, SqL.of hw6⟩, for_list (K := K) (a := ad h) (xs := ws) (fun i σ' H' => ∃ (fs' st'' : List Nm) (prev' : Nm → Nm) (x7 x8 : Option V), σ' = [some v, some (.str (S u)), some (.ref D), some (.ref bk), some (.ref ln), some (.ref ah), some (.str (S h)), x7, x8] ∧ Same H H' ∧ BesideAt H' D pl ad (nbOf ts) ∧ H' (ad h) = some (.lst ws) ∧ H' bk = some (.dK (dkm fs' fun x => .str (S (prev' x)))) ∧ H' ln = some (.dK (dkm fs' fun x => .int (dist ts u x))) ∧ H' ah = some (.lst ((st''.map S).map V.str)) ∧ Wk pl ts u fs' st'' prev' (fun x => x = h) ∧ fs.length ≤ fs'.length ∧ fs'.length + st'.length = fs.length + st''.length ∧ h ∈ fs' ∧ ∀ p ∈ (nbOf ts h).take i, p.1 ∈ fs')
            ⟨fs, st', prev, x7, x8, rfl, SM6, bs6, hw6, hbk6, hln6, hah6, wk1, Nat.le_refl _, rfl, hh, fun p hp => (by cases hp)⟩ (fun i σ' H' _ hP => ?_) (fun i x σ' H' hi hP => ?_) (fun σ' H' hP => ?_)⟩
          · obtain ⟨_, _, _, _, _, _, _, _, hw, _⟩ := hP
            exact SqL.of hw
          · obtain ⟨fs', st'', prev', y7, y8, rfl, SM7, bs7, hw7, hbk7, hln7, hah7, wk7, le7, em7, hh7, nb7⟩ := hP
            obtain ⟨ws', hw', hA7⟩ := bs7.each h hpl
            rw [hw7] at hw'
            cases hw'
            obtain ⟨d, hd', hx⟩ := DtAll.get hA7 hi
            rw [List.getElem?_map] at hd'
            cases ee : (nbOf ts h)[i]? with
            | none =>
              rw [ee] at hd'
              cases hd'
            | some yk =>
              obtain ⟨y, k⟩ := yk
              rw [ee] at hd'
              have ed : d = pairD (y, k) := (Option.some.inj hd').symm
              subst ed
              obtain ⟨g, rfl, hg⟩ := dt_pairD hx
              have adj : Adj ts h y k := (nbOf_adj ts h y k).mp (List.mem_of_getElem? ee)
              have et : (nbOf ts h).take (i + 1) = (nbOf ts h).take i ++ [(y, k)] := by
                rw [List.take_add_one, ee]
                rfl
              have fl' := nodup_sub_len fs' pl wk7.nd wk7.sub
              have szf : ∀ f : Nm → V, (dkm fs' f).length < sizeLine := fun f => by
                unfold dkm
                rw [List.length_map]
                exact sz_lt (by omega)
              refine ⟨g, _, rfl, SqT.of hg, rfl, _, _, rfl, _, _, rfl, rfl, ?_⟩
              refine ⟨_, rfl, _, rfl, bk, _, rfl, DGet.k (k := Sum.inr (S y)) hbk7, _, rfl, ?_⟩
              rw [dkm_some]
              by_cases hy : y ∈ fs'
              · rw [decide_eq_true hy]
                refine iteF ⟨fs', st'', prev', _, _, rfl, SM7, bs7, hw7, hbk7, hln7, hah7, wk7, le7, em7, hh7, fun p hp => ?_⟩
                rw [et] at hp
                rcases List.mem_append.mp hp with z | z
                · exact nb7 p z
                · rw [List.mem_singleton.mp z]
                  exact hy
              · rw [decide_eq_false hy]
                refine iteT ?_
                obtain ⟨e1, wk8⟩ := wk7.push tr hh7 adj hy
                -- back[place] = here
                refine ⟨_, rfl, _, rfl, _, rfl, bk, _, rfl, DPut.k (k := Sum.inr (S y)) hbk7 (szf _), ?_⟩
                rw [dkm_new hy]
                have SM8 := same_put (o := .dK (dkm (fs' ++ [y]) fun z => if z = y then V.str (S h) else .str (S (prev' z)))) SM7 bk0
                have bs8 := bs7.off (o := .dK (dkm (fs' ++ [y]) fun z => if z = y then V.str (S h) else .str (S (prev' z)))) (tkD hbk7) Dbk adbk
                have hln8 : (upd H' bk (.dK (dkm (fs' ++ [y]) fun z => if z = y then V.str (S h) else .str (S (prev' z))))) ln = some (.dK (dkm fs' fun x => .int (dist ts u x))) := by rw [upd_ne bkln.symm]; exact hln7
                have hah8 : (upd H' bk (.dK (dkm (fs' ++ [y]) fun z => if z = y then V.str (S h) else .str (S (prev' z))))) ah = some (.lst ((st''.map S).map V.str)) := by rw [upd_ne bkah.symm]; exact hah7
                have hw8 : (upd H' bk (.dK (dkm (fs' ++ [y]) fun z => if z = y then V.str (S h) else .str (S (prev' z))))) (ad h) = some (.lst ws) := by rw [upd_ne (adbk h hpl)]; exact hw7
                have hbk8 : (upd H' bk (.dK (dkm (fs' ++ [y]) fun z => if z = y then V.str (S h) else .str (S (prev' z))))) bk = some (.dK (dkm (fs' ++ [y]) fun z => .str (S (if z = y then h else prev' z)))) := by
                  rw [upd_same]
                  exact congrArg (fun z => some (HO.dK z)) (dkm_cong fun z _ => by by_cases q : z = y <;> simp [q])
                generalize upd H' bk (.dK (dkm (fs' ++ [y]) fun z => if z = y then V.str (S h) else .str (S (prev' z)))) = H8 at SM8 bs8 hln8 hah8 hw8 hbk8
                -- lengths[place] = lengths[here] + length
                refine ⟨_, rfl, _, rfl, ln, .int (dist ts u h), rfl, by rw [← dkm_get (f := fun x => V.int (dist ts u x)) hh7]; exact DGet.k (k := Sum.inr (S h)) hln8, _, rfl, _, _, rfl, rfl, _, rfl, _, rfl, ln, _, rfl, DPut.k (k := Sum.inr (S y)) hln8 (szf _), ?_⟩
                rw [dkm_new hy]
                have SM9 := same_put (o := .dK (dkm (fs' ++ [y]) fun z => if z = y then V.int (dist ts u h + k) else .int (dist ts u z))) SM8 ln0
                have bs9 := bs8.off (o := .dK (dkm (fs' ++ [y]) fun z => if z = y then V.int (dist ts u h + k) else .int (dist ts u z))) (tkD hln8) Dln adln
                have hbk9 : (upd H8 ln (.dK (dkm (fs' ++ [y]) fun z => if z = y then V.int (dist ts u h + k) else .int (dist ts u z)))) bk = some (.dK (dkm (fs' ++ [y]) fun z => .str (S (if z = y then h else prev' z)))) := by rw [upd_ne bkln]; exact hbk8
                have hah9 : (upd H8 ln (.dK (dkm (fs' ++ [y]) fun z => if z = y then V.int (dist ts u h + k) else .int (dist ts u z)))) ah = some (.lst ((st''.map S).map V.str)) := by rw [upd_ne lnah.symm]; exact hah8
                have hw9 : (upd H8 ln (.dK (dkm (fs' ++ [y]) fun z => if z = y then V.int (dist ts u h + k) else .int (dist ts u z)))) (ad h) = some (.lst ws) := by rw [upd_ne (adln h hpl)]; exact hw8
                have hln9 : (upd H8 ln (.dK (dkm (fs' ++ [y]) fun z => if z = y then V.int (dist ts u h + k) else .int (dist ts u z)))) ln = some (.dK (dkm (fs' ++ [y]) fun z => .int (dist ts u z))) := by
                  rw [upd_same]
                  refine congrArg (fun z => some (HO.dK z)) (dkm_cong fun z _ => ?_)
                  by_cases q : z = y
                  · rw [if_pos q, q, e1]
                  · rw [if_neg q]
                generalize upd H8 ln (.dK (dkm (fs' ++ [y]) fun z => if z = y then V.int (dist ts u h + k) else .int (dist ts u z))) = H9 at SM9 bs9 hbk9 hah9 hw9 hln9
                -- ahead.append(place)
                have stl : st''.length ≤ 3000 := by omega
                refine ⟨_, rfl, .inl ⟨rfl, _, SqL.of hah9⟩, _, rfl, ah, _, _, rfl, rfl, hah9, by rw [List.length_map, List.length_map]; exact sz_lt (by omega), ?_⟩
                refine ⟨fs' ++ [y], st'' ++ [y], _, _, _, rfl, same_put SM9 ah0, bs9.off (TK.mut hah9) Dah adah, by rw [upd_ne (adah h hpl)]; exact hw9, by rw [upd_ne bkah]; exact hbk9, by rw [upd_ne lnah]; exact hln9, ?_, wk8, by rw [List.length_append]; omega, by rw [List.length_append, List.length_append]; omega, List.mem_append_left _ hh7, fun p hp => ?_⟩
                · rw [upd_same, List.map_append, List.map_append]
                  rfl
                · rw [et] at hp
                  rcases List.mem_append.mp hp with z | z
                  · exact List.mem_append_left _ (nb7 p z)
                  · rw [List.mem_singleton.mp z]
                    exact List.mem_append_right _ (List.mem_singleton.mpr rfl)
          · obtain ⟨fs', st'', prev', y7, y8, rfl, SM7, bs7, hw7, hbk7, hln7, hah7, wk7, le7, em7, hh7, nb7⟩ := hP
            refine ⟨fs', st'', prev', _, _, _, rfl, SM7, bs7, hbk7, hln7, hah7, wk7.shut fun y k ha => ?_, le7, em7⟩
            rw [wl, List.take_length] at nb7
            exact nb7 _ ((nbOf_adj ts h y k).mpr ha)
    · obtain ⟨fs, prev, x6, x7, x8, rfl, SM, hbk5, hln5, wk⟩ := hM
      refine ⟨_, rfl, _, rfl, (by show 2 ≤ sizeLine; decide), fun p np => ?_⟩
      refine q _ p bk ln fs prev (same_new SM np) ⟨upd_same, by rw [upd_ne (ne_of_none hbk5 np)]; exact hbk5, by rw [upd_ne (ne_of_none hln5 np)]; exact hln5, wk.all tr, wk.pr⟩
end
end Far

namespace Far
open PySem PySem.Spec PyProof.Rows L2
open C8 (pss_cut tCut)
open SX (S)
theorem inV_strsT (l : Nm) (ls : List Nm) : inV (.str (S l)) ((ls.map S).map V.str) = decide (l ∈ ls) := inV_strs l ls
theorem pl0_of {H : Hp} {v : V} {pl : List Nm} {ts : List Tie} (h : Dt H v (treeD pl ts)) : ∃ (t a b : Addr), v = .ref t ∧ H t = some (.tup [.ref a, .ref b]) ∧ TupAt H a ((pl.map S).map V.str) := by
  obtain ⟨t, a, b, vs, e, h1, h2, _⟩ := dt_tree h
  exact ⟨t, a, b, e, h1, h2⟩
abbrev s_check_places : Stmt := topS 6
abbrev N_check_places : List Str := ["tree", "names", "name"]
theorem sc_check_places : FnScope N_check_places ["tree", "names"] (defScope s_check_places) := ⟨rfl, rfl, rfl, by decide +kernel, rfl, by decide +kernel, by decide +kernel⟩
section
variable {P : Program} {w : World} {K : PySem.W.Frag} {mg : Str → Option Value} {base : Heap}
def spCheck : Sp := fun vs H Q _ => ∃ (v : V) (n : Addr) (pl ns : List Nm) (ts : List Tie), vs = [v, .ref n] ∧ Dt H v (treeD pl ts) ∧ H n = some (.tup ((ns.map S).map V.str)) ∧ (∀ x ∈ ns, x ∈ pl) ∧ Q .non H
theorem ok_check_places {f : Addr} {fd : FuncData} (F : Fun K "check_places" "check_places" s_check_places f fd) : FnOk P w K mg base CX0 1 f fd ["tree", "names"] spCheck := by
  refine F.ok sc_check_places (fun vs H Q E h => ?_) (fun cdv A outer s H vs Q E hr h => ?_)
  · obtain ⟨v, n, pl, ns, ts, rfl, _⟩ := h
    rfl
  · obtain ⟨v, n, pl, ns, ts, rfl, hd, hn, sub, q⟩ := h
    obtain ⟨t, a, b, rfl, ht, ha⟩ := pl0_of hd
    refine ⟨_, (pss_one (ps_for PassesOwn.never rfl (pi_tup (pv 1)) (pg_name (i := 2) sc_check_places.nd rfl (.inl rfl))
        (pss_one (ps_if (pt_cmpR op_notIn_seq (pv 2) (pe_ix ix_tup (pv 0) pe_int (fun _ _ => rfl)) rfl)
          (pss_one ps_never)
          pss_nil)))), ?_⟩
    refine ⟨_, rfl, n, rfl, ⟨_, SqT.of hn⟩, for_tup (K := K) (a := n) (xs := (ns.map S).map V.str) (fun i σ' H' => (∃ x2, σ' = [some (.ref t), some (.ref n), x2]) ∧ H' = H) ⟨⟨_, rfl⟩, rfl⟩ (fun i σ' H' _ hP => hP.2 ▸ SqT.of hn) (fun i x σ' H' hi hP => ?_) (fun σ' H' hP => hP.2 ▸ q)⟩
    obtain ⟨⟨x2, rfl⟩, rfl⟩ := hP
    obtain ⟨l, hl, rfl⟩ := strs_at (List.mem_of_getElem? hi)
    refine ⟨_, rfl, _, rfl, t, _, 0, .ref a, rfl, rfl, SqT.of ht, atI_nat (j := 0) rfl, a, _, rfl, .inr ha.sq, rfl, flat_strs pl, _, rfl, ?_⟩
    rw [inV_strs, decide_eq_true (sub l hl)]
    exact iteF ⟨⟨_, rfl⟩, rfl⟩
end
abbrev s_lengths_from : Stmt := topS 5
abbrev N_lengths_from : List Str := ["tree", "place", "_", "lengths", "name"]
theorem sc_lengths_from : FnScope N_lengths_from ["tree", "place"] (defScope s_lengths_from) := ⟨rfl, rfl, rfl, by decide +kernel, rfl, by decide +kernel, by decide +kernel⟩
section
variable {P : Program} {w : World} {K : PySem.W.Frag} {mg : Str → Option Value} {base : Heap}
def spLens : Sp := fun vs H Q _ => ∃ (v : V) (pl : List Nm) (ts : List Tie) (u : Nm), vs = [v, .str (S u)] ∧ Dt H v (treeD pl ts) ∧ Fine pl ts ∧ u ∈ pl ∧ ∀ (H' : Hp) (q : Addr), Same H H' → H q = none → H' q = some (.tup (pl.map fun x => .int (dist ts u x))) → Q (.ref q) H'
theorem lens_body {H1 : Hp} {q bk ln : Addr} {pl fs : List Nm} {ts : List Tie} {u : Nm} {prev : Nm → Nm} (W : Walked H1 q bk ln pl ts u fs prev) {x : Nm} (hx : x ∈ pl) {H' : Hp} (s : H' ln = H1 ln) : DGet H' ln (.str (S x)) (some (.int (dist ts u x))) := by
  have e := W.lens
  rw [← s] at e
  have := DGet.k (k := Sum.inr (S x)) e
  rw [dkm_get ((W.all x).mpr hx)] at this
  exact this
theorem ok_lengths_from {f : Addr} {fd : FuncData} (F : Fun K "lengths_from" "lengths_from" s_lengths_from f fd) (T : TxtW mg) (Ccheck_places : Cal P w K mg base 1 "check_places" spCheck) (Cwalk_from : Cal P w K mg base 2 "walk_from" spWalk) : FnOk P w K mg base CX0 3 f fd ["tree", "place"] spLens := by
  refine F.ok sc_lengths_from (fun vs H Q E h => ?_) (fun cdv A outer s H vs Q E hr h => ?_)
  · obtain ⟨v, pl, ts, u, rfl, _⟩ := h
    rfl
  · obtain ⟨v, pl, ts, u, rfl, hd, fine, hu, q⟩ := h
    obtain ⟨t, a, b, rfl, ht, ha⟩ := pl0_of hd
    refine ⟨_, (pss_cons (ps_expr (pe_c Ccheck_places hr (by decide) rfl (pa_cons (pv 0) (pa_cons (pe_tup (pa_cons (pv 1) pa_nil)) pa_nil))))
      (pss_cons (ps_asg (pe_c Cwalk_from hr (by decide) rfl (pa_cons (pv 0) (pa_cons (pv 1) pa_nil))) (pg_tup rfl (pgs_cons (pg_name (i := 2) sc_lengths_from.nd rfl (.inl rfl)) (pgs_cons (pg_name (i := 3) sc_lengths_from.nd rfl (.inr rfl)) pgs_nil))))
      (pss_one (ps_ret (pe_tupleOf (by rfl) T.tuple (pe_lc (own := [("name", 4)]) (g := gName 4) (tt := tYes) rfl sc_lengths_from.nd (pi_tup (pe_ix ix_tup (pv 0) pe_int (fun _ _ => rfl))) (blkOk_by (N := N_lengths_from) (sc := defScope s_lengths_from) (by decide +kernel)) (fun _ _ _ _ _ => pg_name (i := 4) sc_lengths_from.nd rfl (Or.inl rfl)) (fun _ _ _ _ _ => pts_nil) (fun _ _ _ _ _ => (pe_dget (hu_of hr) (pv 3) (pv 4) (fun _ _ => rfl))))))))), ?_⟩
    refine ⟨_, rfl, _, rfl, (by show 1 ≤ sizeLine; decide), fun p np => ?_⟩
    have s1 := same_new (o := .tup [.str (S u)]) (Same.refl H) np
    refine ⟨.ref t, p, pl, [u], ts, rfl, Dt.keep (TK.of s1) hd, upd_same, fun x hx => by rw [List.mem_singleton.mp hx]; exact hu, ?_⟩
    refine ⟨_, rfl, _, rfl, .ref t, pl, ts, u, rfl, Dt.keep (TK.of s1) hd, fine, hu, fun H1 g bk ln fs prev S1 W => ?_⟩
    have s2 := s1.trans S1
    refine ⟨g, _, rfl, SqT.of W.pair, rfl, _, _, rfl, _, _, rfl, rfl, ?_⟩
    refine ⟨_, rfl, t, _, 0, .ref a, rfl, rfl, SqT.of (s2 _ _ ht), atI_nat (j := 0) rfl, a, rfl, ⟨_, (ha.same s2).sq⟩, fun D nD => ?_⟩
    have Da : a ≠ D := (ha.same s2).ne nD
    have Dl : ln ≠ D := ne_of_none W.lens nD
    refine lc_tup (K := K) (a := a) (xs := (pl.map S).map V.str) (fun i H' => H' = upd H1 D (.lst ((pl.take i).map fun x => .int (dist ts u x)))) rfl (fun i H' _ hP => ?_) (fun i x H' hi hP => ?_) (fun H' hP => ?_)
    · rw [hP]
      exact ((ha.same s2).updN Da).sq
    · subst hP
      have pl1 := fine.len
      rw [List.getElem?_map, List.getElem?_map] at hi
      cases el : pl[i]? with
      | none =>
        rw [el] at hi
        cases hi
      | some l =>
        rw [el] at hi
        have ex : x = .str (S l) := (Option.some.inj hi).symm
        subst ex
        refine ⟨rfl, _, rfl, _, rfl, ln, .int (dist ts u l), rfl, lens_body W (List.mem_of_getElem? el) (upd_ne Dl), _, upd_same, by rw [List.length_map, List.length_take]; exact sz_lt (by omega), ?_⟩
        rw [upd_upd, List.take_add_one, el, List.map_append]
        rfl
    · subst hP
      rw [List.length_map, List.length_map, List.take_length]
      have s3 := same_new (o := .lst (pl.map fun x => V.int (dist ts u x))) s2 nD
      refine .inl ⟨D, _, rfl, SqL.of upd_same, fun r nr => ?_⟩
      exact q _ r (same_new s3 nr) (s3.free nr) upd_same
end
end Far

namespace Far
open PySem PySem.Spec PyProof.Rows L2
open C8 (pss_cut tCut)
open SX (S)
abbrev s_way_between : Stmt := topS 4
abbrev N_way_between : List Str := ["tree", "one", "other", "back", "_", "way"]
theorem sc_way_between : FnScope N_way_between ["tree", "one", "other"] (defScope s_way_between) := ⟨rfl, rfl, rfl, by decide +kernel, rfl, by decide +kernel, by decide +kernel⟩
section
variable {P : Program} {w : World} {K : PySem.W.Frag} {mg : Str → Option Value} {base : Heap}
def spWay : Sp := fun vs H Q _ => ∃ (v : V) (pl : List Nm) (ts : List Tie) (u x : Nm), vs = [v, .str (S u), .str (S x)] ∧ Dt H v (treeD pl ts) ∧ Fine pl ts ∧ u ∈ pl ∧ x ∈ pl ∧ ∀ (H' : Hp) (q : Addr), Same H H' → H q = none → H' q = some (.tup (((path ts u x).map S).map V.str)) → Q (.ref q) H'
theorem path_len {pl : List Nm} {ts : List Tie} (F : Fine pl ts) {u x : Nm} (hu : u ∈ pl) (hx : x ∈ pl) : (path ts u x).length ≤ 1000 := by
  have w := F.tree.the_way hu hx
  have := nodup_sub_len _ pl w.nodup (w.inside (fun e he => let ⟨a, b, _⟩ := F.tree.ties e he; ⟨a, b⟩) hu)
  have := F.len
  omega
theorem ok_way_between {f : Addr} {fd : FuncData} (F : Fun K "way_between" "way_between" s_way_between f fd) (T : TxtW mg) (Ccheck_places : Cal P w K mg base 1 "check_places" spCheck) (Cwalk_from : Cal P w K mg base 2 "walk_from" spWalk) : FnOk P w K mg base CX0 3 f fd ["tree", "one", "other"] spWay := by
  refine F.ok sc_way_between (fun vs H Q E h => ?_) (fun cdv A outer s H vs Q E hr h => ?_)
  · obtain ⟨v, pl, ts, u, x, rfl, _⟩ := h
    rfl
  · obtain ⟨v, pl, ts, u, x, rfl, hd, fine, hu, hx, q⟩ := h
    have tr := fine.tree
    refine ⟨_, (pss_cons (ps_expr (pe_c Ccheck_places hr (by decide) rfl (pa_cons (pv 0) (pa_cons (pe_tup (pa_cons (pv 1) (pa_cons (pv 2) pa_nil))) pa_nil))))
      (pss_cons (ps_asg (pe_c Cwalk_from hr (by decide) rfl (pa_cons (pv 0) (pa_cons (pv 2) pa_nil))) (pg_tup rfl (pgs_cons (pg_name (i := 3) sc_way_between.nd rfl (.inl rfl)) (pgs_cons (pg_name (i := 4) sc_way_between.nd rfl (.inl rfl)) pgs_nil))))
      (pss_cons (ps_set (i := 5) sc_way_between.nd rfl (.inl rfl) (pe_lst (pa_cons (pv 1) pa_nil)))
      (pss_cut (ps_while PassesOwn.never (pt_cmpR op_ne (pe_ix ix_list (pv 5) (pe_un un_neg pe_int) (fun _ _ => rfl)) (pv 2) (nomark _))
        (pss_one (ps_expr (pe_bm PySem.F.plainAttrs_list PySem.F.slot_list_append PySem.F.type_list_append mt_append (pv 5) (pa_cons (pe_dget (hu_of hr) (pv 3) (pe_ix ix_list (pv 5) (pe_un un_neg pe_int) (fun _ _ => rfl)) (fun _ _ => rfl)) pa_nil)))))
      (pss_one (ps_ret (pe_tupleOf (by rfl) T.tuple (pv 5)))))))), ?_⟩
    refine ⟨_, rfl, _, rfl, _, rfl, (by show 2 ≤ sizeLine; decide), fun p np => ?_⟩
    have s1 := same_new (o := .tup [.str (S u), .str (S x)]) (Same.refl H) np
    refine ⟨v, p, pl, [u, x], ts, rfl, Dt.keep (TK.of s1) hd, upd_same, fun y hy => ?_, ?_⟩
    · rcases List.mem_cons.mp hy with z | z
      · exact z ▸ hu
      · exact (List.mem_singleton.mp z) ▸ hx
    refine ⟨_, rfl, _, rfl, v, pl, ts, x, rfl, Dt.keep (TK.of s1) hd, fine, hx, fun H1 g bk ln fs prev S1 W => ?_⟩
    have s2 := s1.trans S1
    refine ⟨g, _, rfl, SqT.of W.pair, rfl, _, _, rfl, _, _, rfl, rfl, ?_⟩
    refine ⟨_, rfl, (by show 1 ≤ sizeLine; decide), fun wy nwy => ?_⟩
    have bw : bk ≠ wy := ne_of_none W.back nwy
    refine ⟨fun σ' H' => σ' = [some v, some (.str (S u)), some (.str (S x)), some (.ref bk), some (.ref ln), some (.ref wy)] ∧ H' = upd H1 wy (.lst (((path ts u x).map S).map V.str)), ?_, fun σ' H' hM => ?_⟩
    · refine ⟨fun m σ' H' => ∃ (w0 : List Nm) (y : Nm), σ' = [some v, some (.str (S u)), some (.str (S x)), some (.ref bk), some (.ref ln), some (.ref wy)] ∧ y ∈ pl ∧ H' = upd H1 wy (.lst ((((w0 ++ [y])).map S).map V.str)) ∧ w0 ++ (path ts x y).reverse = (path ts x u).reverse ∧ m = (path ts x y).length, ⟨_, [], u, rfl, hu, rfl, rfl, rfl⟩, ?_⟩
      rintro m σ' H' ⟨w0, y, rfl, hy, rfl, hw, rfl⟩
      have e1 : ((w0 ++ [y]).map S).map V.str = (w0.map S).map V.str ++ [.str (S y)] := by
        rw [List.map_append, List.map_append]
        rfl
      rw [e1]
      refine ⟨_, rfl, 1, rfl, wy, _, -1, .str (S y), rfl, rfl, SqL.of upd_same, atI_last _ _, _, rfl, rfl, _, rfl, ?_⟩
      have lw : w0.length ≤ 1000 := by
        have := congrArg List.length hw
        rw [List.length_append, List.length_reverse, List.length_reverse] at this
        have := path_len fine hx hu
        omega
      by_cases e : y = x
      · subst e
        rw [decide_eq_true rfl]
        refine iteF ⟨rfl, ?_⟩
        rw [← e1, (tr.dist_self y).2] at *
        have e3 : w0 ++ [y] = path ts u y := by
          rw [(tr.dist_symm hx hu).2, ← hw]
          rfl
        rw [e3]
      · rw [decide_eq_false (fun z => e (SX.S_inj (V.str.inj z)))]
        obtain ⟨p1, p2⟩ := W.pr y ((W.all y).mpr hy) e
        refine iteT ⟨fun σ' H' => ∃ (w0' : List Nm) (y' : Nm), σ' = [some v, some (.str (S u)), some (.str (S x)), some (.ref bk), some (.ref ln), some (.ref wy)] ∧ y' ∈ pl ∧ H' = upd H1 wy (.lst ((((w0' ++ [y'])).map S).map V.str)) ∧ w0' ++ (path ts x y').reverse = (path ts x u).reverse ∧ (path ts x y').length < (path ts x y).length, ?_, ?_⟩
        · rintro σ' H' ⟨w0', y', h1, h2, h3, h4, h5⟩
          exact ⟨_, h5, w0', y', h1, h2, h3, h4, rfl⟩
        · have hb : DGet (upd H1 wy (.lst ((w0.map S).map V.str ++ [.str (S y)]))) bk (.str (S y)) (some (.str (S (prev y)))) := by
            have e5 : (upd H1 wy (.lst ((w0.map S).map V.str ++ [V.str (S y)]))) bk = some (.dK (dkm fs fun x => .str (S (prev x)))) := by
              rw [upd_ne bw]
              exact W.back
            have := DGet.k (k := Sum.inr (S y)) e5
            rw [dkm_get ((W.all y).mpr hy)] at this
            exact this
          refine ⟨_, rfl, .inl ⟨rfl, _, SqL.of upd_same⟩, _, rfl, _, rfl, 1, rfl, wy, _, -1, .str (S y), rfl, rfl, SqL.of upd_same, atI_last _ _, bk, _, rfl, hb, wy, _, _, rfl, rfl, upd_same, by rw [List.length_append, List.length_map, List.length_map]; exact sz_lt (by simp; omega), ?_⟩
          refine ⟨w0 ++ [y], prev y, rfl, (W.all _).mp p1, ?_, ?_, ?_⟩
          · have e6 : (((w0 ++ [y]) ++ [prev y]).map S).map V.str = ((w0 ++ [y]).map S).map V.str ++ [.str (S (prev y))] := by
              rw [List.map_append, List.map_append]
              rfl
            rw [upd_upd, ← e1, e6]
          · rw [← hw, p2, List.reverse_append]
            simp
          · rw [p2]
            simp
    · obtain ⟨rfl, rfl⟩ := hM
      have s3 := same_new (o := .lst (((path ts u x).map S).map V.str)) s2 nwy
      refine ⟨_, rfl, .inl ⟨wy, _, rfl, SqL.of upd_same, fun r nr => ?_⟩⟩
      exact q _ r (same_new s3 nr) (s3.free nr) upd_same
end
end Far

namespace Far
open PySem PySem.Spec PyProof.Rows L2
open C8 (pss_cut tCut)
open SX (S)
open RZ (ItzT iZipA pi_zipA)
theorem kit_cls (K : PySem.W.Frag) {a b : String} {r : Bool} (h : kitB a b = some r) : PySem.W.kitOne K (.type a) (.type b) = some r := kit_ty h
section
variable {P : Program} {w : World} {K : PySem.W.Frag} {mg : Str → Option Value} {base : Heap}
theorem zip_it {K : PySem.W.Frag} {a b : Addr} {xs ys : List V} {g : TG} {tt : TT} {te : TE} {vs : List Nat} {σ : L2.St} {H1 : Hp} {D : Addr} {Qd : Hp → Prop} (len : xs.length = ys.length) (Pv : Nat → Hp → Prop) (h0 : Pv 0 (upd H1 D (.lst []))) (hl : ∀ i H, Pv i H → SqT K H a xs ∧ SqT K H b ys)
    (hs : ∀ i x y H T, xs[i]? = some x → ys[i]? = some y → Pv i H → H T = none → g (.ref T) (wipe σ vs) (upd H T (.tup [x, y])) fun σ2 H2 => wipe σ2 vs = wipe σ vs ∧ tt σ2 H2 fun b H3 =>
      if b = true then te σ2 H3 fun y H4 => ∃ acc, H4 D = some (.lst acc) ∧ acc.length < sizeLine ∧ Pv (i + 1) (upd H4 D (.lst (acc ++ [y]))) else Pv (i + 1) H3) (hd : ∀ H, Pv xs.length H → Qd H) :
    ∃ W : Nat → Nat → Hp → Prop, (∃ m, W 0 m (upd H1 D (.lst []))) ∧ ∀ i m H, W i m H →
      ((ItzT K a b).stop i H ∧ Qd H) ∨ ((ItzT K a b).go i H ∧ ∃ Nx : Hp → Prop, (∀ H', Nx H' → ∃ m', m' < m ∧ W (i + 1) m' H') ∧ ∀ v H', (ItzT K a b).yld i H v H' → g v (wipe σ vs) H' fun σ2 H2 => wipe σ2 vs = wipe σ vs ∧ tt σ2 H2 fun b H3 =>
        if b = true then te σ2 H3 fun y H4 => ∃ acc, H4 D = some (.lst acc) ∧ acc.length < sizeLine ∧ Nx (upd H4 D (.lst (acc ++ [y]))) else Nx H3) := by
  refine ⟨fun i m H => m = xs.length - i ∧ i ≤ xs.length ∧ Pv i H, ⟨xs.length, by simp, Nat.zero_le _, h0⟩, fun i m H ⟨em, hi, p⟩ => ?_⟩
  obtain ⟨q1, q2⟩ := hl i H p
  by_cases lt : i < xs.length
  · have lt2 : i < ys.length := by omega
    refine .inr ⟨⟨xs, ys, xs[i], ys[i], q1, q2, by simp [lt], by simp [lt2]⟩, Pv (i + 1), fun H' p' => ⟨xs.length - (i + 1), by omega, rfl, lt, p'⟩, fun v H' ⟨T, x, y, ev, nT, eH, hx, hy⟩ => ?_⟩
    rw [ev, eH]
    exact hs i x y H T (hx xs q1) (hy ys q2) p nT
  · have e : i = xs.length := by omega
    rw [e] at p
    exact .inl ⟨⟨xs, ys, q1, q2, .inl (by omega)⟩, hd H p⟩
theorem dt_any {H : Hp} {u : V} {ds : List PyData} (h : Dt H u (.tuple ds)) : ∃ (a : Addr) (xs : List V), u = .ref a ∧ TupAt H a xs ∧ DtAll H xs ds := by
  cases h with
  | tup ha hs => exact ⟨_, _, rfl, .inl ha, hs⟩
  | @tupZ a pl _ o e n d ha =>
    subst e
    exact ⟨_, _, rfl, .inr ⟨o, d, ha⟩, dt_strs H pl⟩
theorem TupAt.ty {K : PySem.W.Frag} {H : Hp} {a : Addr} {xs : List V} (h : TupAt H a xs) : TyX K H (.ref a) (.type "tuple") := h.elim (fun h => .base (.tup h)) fun ⟨_, _, h⟩ => .fTuple h
end
end Far

namespace Far
open PySem PySem.Spec PyProof.Rows L2
open C8 (pss_cut tCut)
open SX (S)
open RZ (ItzT iZipA pi_zipA)
structure TxtS (mg : Str → Option Value) : Prop where
  isinstance : mg "isinstance" = none
  tuple : mg "tuple" = none
  str : mg "str" = none
  int : mg "int" = none
  bool : mg "bool" = none
  len : mg "len" = none
  zip : mg "zip" = none
/-- what two told things have in common: texts, whole numbers, tuples of such -/
inductive Plain : Nat → PyData → Prop
  | non (n : Nat) : Plain (n + 1) .none
  | str (n : Nat) (x : Str) : Plain (n + 1) (.str x)
  | int (n : Nat) (i : Int) : Plain (n + 1) (.int i)
  | tup {n : Nat} {ds : List PyData} : (∀ d ∈ ds, Plain n d) → ds.length ≤ 1000 → Plain (n + 1) (.tuple ds)
abbrev s_law_same : Stmt := topS 21
abbrev N_law_same : List Str := ["found", "due", "one", "other"]
theorem sc_law_same : FnScope N_law_same ["found", "due"] (defScope s_law_same) := ⟨rfl, rfl, rfl, by decide +kernel, rfl, by decide +kernel, by decide +kernel⟩
section
variable {P : Program} {w : World} {K : PySem.W.Frag} {mg : Str → Option Value} {base : Heap}
/-- two that stand for the same data (of depth below n) are the same -/
def spSame (n : Nat) : Sp := fun vs H Q _ => ∃ (u v : V) (d : PyData), vs = [u, v] ∧ Dt H u d ∧ Dt H v d ∧ Plain n d ∧ ∀ H' : Hp, Same H H' → Q (.bl true) H'
theorem ok_same {f : Addr} {fd : FuncData} {n k : Nat} (hk : 1 ≤ k) (F : Fun K "_law_same" "_law_same" s_law_same f fd) (T : TxtS mg) (C_law_same : Cal P w K mg base k "_law_same" (spSame n)) : FnOk P w K mg base CX0 (k + 1) f fd ["found", "due"] (spSame (n + 1)) := by
  refine F.ok sc_law_same (fun vs H Q E h => ?_) (fun cdv A outer s H vs Q E hr h => ?_)
  · obtain ⟨u, v, d, rfl, _⟩ := h
    rfl
  · obtain ⟨u, v, d, rfl, hu, hv, hp, q⟩ := h
    refine ⟨_, (pss_cut (ps_if (pt_cmpR op_isN (pv 1) pe_non (nomark _))
        (pss_one (ps_ret (pe_cmpR op_isN (pv 0) pe_non (nomark _))))
        pss_nil)
      (pss_cut (ps_if (pt_val (pe_callB call_isi (by rfl) T.isinstance bt_isinstance (pa_cons (pv 1) (pa_cons (pe_bltn (v := .ty "tuple") (by rfl) T.tuple bt_tuple rfl) pa_nil))))
        (pss_cut (ps_if (PW.pt (pw_or (pt_not (pt_val (pe_callB call_isi (by rfl) T.isinstance bt_isinstance (pa_cons (pv 0) (pa_cons (pe_bltn (v := .ty "tuple") (by rfl) T.tuple bt_tuple rfl) pa_nil))))) (pw_or1 (pt_cmpR op_ne (pe_callB call_len_seq (by rfl) T.len bt_len (pa_cons (pv 0) pa_nil)) (pe_callB call_len_seq (by rfl) T.len bt_len (pa_cons (pv 1) pa_nil)) (nomark _)))))
          (pss_one (ps_ret pe_bl))
          pss_nil)
        (pss_one (ps_ret (pe_cmpR (op_eqD (hd_of hr hk)) (pe_lc (own := [("one", 2), ("other", 3)]) (g := gTup K 2 (gCons (gName 2) (gCons (gName 3) gNil)))  rfl sc_law_same.nd (pi_zipA (by rfl) T.zip (pa_cons (pv 0) (pa_cons (pv 1) pa_nil))) (blkOk_by (N := N_law_same) (sc := defScope s_law_same) (by decide +kernel)) (fun _ _ _ _ _ => (pg_tup rfl (pgs_cons (pg_name (i := 2) sc_law_same.nd rfl (.inl rfl)) (pgs_cons (pg_name (i := 3) sc_law_same.nd rfl (.inl rfl)) pgs_nil)))) (fun _ _ _ _ _ => pts_one (pt_not (pt_val (pe_c C_law_same hr (Nat.le_refl _) rfl (pa_cons (pv 2) (pa_cons (pv 3) pa_nil)))))) (fun _ _ _ _ _ => pe_int)) (pe_lst pa_nil) (nomark _)))))
        pss_nil)
      (pss_cut (ps_if (pt_val (pe_callB call_isi (by rfl) T.isinstance bt_isinstance (pa_cons (pv 1) (pa_cons (pe_bltn (v := .ty "str") (by rfl) T.str bt_str rfl) pa_nil))))
        (pss_one (ps_ret (pe_and (pe_callB call_isi (by rfl) T.isinstance bt_isinstance (pa_cons (pv 0) (pa_cons (pe_bltn (v := .ty "str") (by rfl) T.str bt_str rfl) pa_nil))) (pe_one (pe_cmpR op_eq (pv 0) (pv 1) (nomark _))))))
        pss_nil)
      (pss_one (ps_ret (pe_and (pe_callB call_isi (by rfl) T.isinstance bt_isinstance (pa_cons (pv 0) (pa_cons (pe_bltn (v := .ty "int") (by rfl) T.int bt_int rfl) pa_nil))) (pe_and (pe_not (pe_callB call_isi (by rfl) T.isinstance bt_isinstance (pa_cons (pv 0) (pa_cons (pe_bltn (v := .ty "bool") (by rfl) T.bool bt_bool rfl) pa_nil)))) (pe_one (pe_cmpR op_eq (pv 0) (pv 1) (nomark _)))))))))), ?_⟩
    cases hp with
    | non _ =>
      cases hu
      cases hv
      refine ⟨fun _ _ => False, ?_, fun _ _ z => z.elim⟩
      exact ⟨_, rfl, rfl, _, rfl, iteT ⟨_, rfl, rfl, q _ (Same.refl _)⟩⟩
    | str _ x =>
      cases hu
      cases hv
      refine ⟨fun σ' H' => σ' = [some (.str x), some (.str x), none, none] ∧ H = H', ⟨_, rfl, rfl, _, rfl, iteF ⟨rfl, rfl⟩⟩, fun σ' H' hM => ?_⟩
      obtain ⟨rfl, rfl⟩ := hM
      refine ⟨fun σ' H' => σ' = [some (.str x), some (.str x), none, none] ∧ H' = H, ?_, fun σ' H' hM => ?_⟩
      · exact ⟨_, rfl, _, _, _, _, false, rfl, .ty _, .base (.str x), kit_cls K (by decide +kernel), _, rfl, iteF ⟨rfl, rfl⟩⟩
      · obtain ⟨rfl, rfl⟩ := hM
        refine ⟨fun σ' H' => False, ?_, fun σ' H' hM => hM.elim⟩
        refine ⟨_, rfl, _, _, _, _, true, rfl, .ty _, .base (.str x), kit_cls K (by decide +kernel), _, rfl, iteT ?_⟩
        refine ⟨_, rfl, _, _, _, _, true, rfl, .ty _, .base (.str x), kit_cls K (by decide +kernel), _, rfl, iteT ⟨_, rfl, _, rfl, by simp [scal], ?_⟩⟩
        rw [decide_eq_true rfl]
        exact q _ (Same.refl _)
    | int _ x =>
      cases hu
      cases hv
      refine ⟨fun σ' H' => σ' = [some (.int x), some (.int x), none, none] ∧ H = H', ⟨_, rfl, rfl, _, rfl, iteF ⟨rfl, rfl⟩⟩, fun σ' H' hM => ?_⟩
      obtain ⟨rfl, rfl⟩ := hM
      refine ⟨fun σ' H' => σ' = [some (.int x), some (.int x), none, none] ∧ H' = H, ?_, fun σ' H' hM => ?_⟩
      · exact ⟨_, rfl, _, _, _, _, false, rfl, .ty _, .base (.int x), kit_cls K (by decide +kernel), _, rfl, iteF ⟨rfl, rfl⟩⟩
      · obtain ⟨rfl, rfl⟩ := hM
        refine ⟨fun σ' H'' => σ' = [some (.int x), some (.int x), none, none] ∧ H'' = H', ?_, fun σ' H'' hM => ?_⟩
        · exact ⟨_, rfl, _, _, _, _, false, rfl, .ty _, .base (.int x), kit_cls K (by decide +kernel), _, rfl, iteF ⟨rfl, rfl⟩⟩
        · obtain ⟨rfl, rfl⟩ := hM
          refine ⟨_, rfl, _, _, _, _, true, rfl, .ty _, .base (.int x), kit_cls K (by decide +kernel), _, rfl, iteT ?_⟩
          refine ⟨_, rfl, _, _, _, _, false, rfl, .ty _, .base (.int x), kit_cls K (by decide +kernel), _, rfl, _, rfl, iteT ⟨_, rfl, _, rfl, by simp [scal], ?_⟩⟩
          rw [decide_eq_true rfl]
          exact q _ (Same.refl _)
    | @tup _ ds hds hl =>
      obtain ⟨a, xs, rfl, ha, hA⟩ := dt_any hu
      obtain ⟨b, ys, rfl, hb, hB⟩ := dt_any hv
      have l1 := DtAll.len hA
      have l2 := DtAll.len hB
      refine ⟨fun σ' H' => σ' = [some (.ref a), some (.ref b), none, none] ∧ H = H', ⟨_, rfl, rfl, _, rfl, iteF ⟨rfl, rfl⟩⟩, fun σ' H' hM => ?_⟩
      obtain ⟨rfl, rfl⟩ := hM
      refine ⟨fun σ' H' => False, ?_, fun σ' H' hM => hM.elim⟩
      refine ⟨_, rfl, _, _, _, _, true, rfl, .ty _, hb.ty, kit_cls K (by decide +kernel), _, rfl, iteT ?_⟩
      refine ⟨fun σ' H' => σ' = [some (.ref a), some (.ref b), none, none] ∧ H' = H, ?_, fun σ' H' hM => ?_⟩
      · refine ⟨_, rfl, _, _, _, _, true, rfl, .ty _, ha.ty, kit_cls K (by decide +kernel), _, rfl, iteF ?_⟩
        refine ⟨_, rfl, a, _, rfl, .inr ha.sq, _, rfl, b, _, rfl, .inr hb.sq, rfl, _, rfl, ?_⟩
        rw [l1, l2, decide_eq_true rfl]
        exact iteF ⟨rfl, rfl⟩
      · obtain ⟨rfl, rfl⟩ := hM
        refine ⟨_, rfl, _, rfl, a, b, xs, ys, rfl, .inr ⟨ha.sq, hb.sq, fun D nD => ?_⟩⟩
        refine zip_it (by omega) (fun i H'' => Same H' H'' ∧ H'' D = some (.lst [])) ⟨same_new (Same.refl H') nD, upd_same⟩ (fun i H'' hP => ⟨(ha.same hP.1).sq, (hb.same hP.1).sq⟩) (fun i x y H'' T hx hy hP nT => ?_) (fun H'' hP => ?_)
        · obtain ⟨d1, hd1, hx'⟩ := DtAll.get hA hx
          obtain ⟨d2, hd2, hy'⟩ := DtAll.get hB hy
          have ed : d1 = d2 := Option.some.inj (hd1.symm.trans hd2)
          subst ed
          have sT : Same H' (upd H'' T (.tup [x, y])) := same_new hP.1 nT
          refine ⟨T, _, rfl, SqT.of upd_same, rfl, _, _, rfl, _, _, rfl, rfl, rfl, ?_⟩
          refine ⟨_, rfl, _, rfl, x, y, d1, rfl, Dt.keep (TK.of sT) hx', Dt.keep (TK.of sT) hy', hds d1 (List.mem_of_getElem? hd1), fun H3 S3 => ?_⟩
          refine ⟨_, rfl, iteF ⟨sT.trans S3, S3 _ _ ?_⟩⟩
          rw [upd_ne (ne_of_none hP.2 nT)]
          exact hP.2
        · refine ⟨Nat.zero_le _, fun p np => ?_⟩
          refine ⟨_, _, .lst (SqL.of (by rw [upd_ne (ne_of_none hP.2 np)]; exact hP.2)) .nil, .lst (SqL.of upd_same) .nil, rfl, rfl, ?_⟩
          exact q _ (same_new hP.1 np)
end
end Far

namespace Far
open PySem PySem.Spec PyProof.Rows L2
open C8 (pss_cut tCut)
open SX (S)
def pre (j : Nat) : Nm := [97 + j % 26] ++ [97 + j / 26 % 26]
theorem pre_inj {i j : Nat} (hi : i < 676) (hj : j < 676) (h : pre i = pre j) : i = j := by
  unfold pre at h
  simp at h
  omega
/-- names taken already: a list of them or a tuple -/
def TakenAt (H : Hp) (p : Addr) (ls : List Nm) : Prop := NamesAt H p ls ∨ TupAt H p ((ls.map S).map V.str)
theorem TakenAt.mv {H H' : Hp} {p d : Addr} {ls : List Nm} (h : TakenAt H p ls) (s : SmX d H H') (n : p ≠ d) : TakenAt H' p ls :=
  h.elim (fun h => .inl (s p _ n h)) fun h => .inr (h.elim (fun h => .inl (s p _ n h)) fun ⟨o, e, h⟩ => .inr ⟨o, e, s p _ n h⟩)
theorem TakenAt.sq {K : PySem.W.Frag} {H : Hp} {p : Addr} {ls : List Nm} (h : TakenAt H p ls) : SqL K H p ((ls.map S).map V.str) ∨ SqT K H p ((ls.map S).map V.str) := h.elim (fun h => .inl (SqL.of h)) fun h => .inr h.sq
/-- the names found so far, the turns that found none -/
structure Fnd (fs tks : List Nm) (t : Nat) (js : List Nat) : Prop where
  nd : fs.Nodup
  ok : ∀ l ∈ fs, NameOk l
  un : ∀ l ∈ fs, l ∉ tks
  jn : js.Nodup
  jl : ∀ j ∈ js, j < t ∧ pre j ∈ (fs ++ tks).map (List.take 2)
  eq : t = fs.length + js.length
theorem Fnd.le {fs tks : List Nm} {t : Nat} {js : List Nat} (h : Fnd fs tks t js) (ht : t ≤ 676) : t ≤ 2 * fs.length + tks.length := by
  have nd : (js.map pre).Nodup := by
    rw [List.Nodup, List.pairwise_map]
    have := h.jn
    rw [List.Nodup] at this
    exact List.Pairwise.imp_of_mem (fun {a b} ha hb ne e => ne (pre_inj (by have := (h.jl a ha).1; omega) (by have := (h.jl b hb).1; omega) e)) this
  have := nodup_sub_len _ ((fs ++ tks).map (List.take 2)) nd fun x hx => by
    obtain ⟨j, hj, rfl⟩ := List.mem_map.mp hx
    exact (h.jl j hj).2
  rw [List.length_map, List.length_map, List.length_append] at this
  have := h.eq
  omega
theorem Fnd.hit {fs tks : List Nm} {t : Nat} {js : List Nat} {l : Nm} (h : Fnd fs tks t js) (ok : NameOk l) (n1 : l ∉ fs) (n2 : l ∉ tks) : Fnd (fs ++ [l]) tks (t + 1) js := by
  refine ⟨nd_snoc' h.nd n1, fun x hx => ?_, fun x hx => ?_, h.jn, fun j hj => ?_, by rw [List.length_append, List.length_singleton]; have := h.eq; omega⟩
  · rcases List.mem_append.mp hx with z | z
    · exact h.ok x z
    · rw [List.mem_singleton.mp z]
      exact ok
  · rcases List.mem_append.mp hx with z | z
    · exact h.un x z
    · rw [List.mem_singleton.mp z]
      exact n2
  · obtain ⟨h1, h2⟩ := h.jl j hj
    refine ⟨by omega, ?_⟩
    rw [List.map_append] at h2 ⊢
    rw [List.map_append]
    rcases List.mem_append.mp h2 with z | z
    · exact List.mem_append_left _ (List.mem_append_left _ z)
    · exact List.mem_append_right _ z
theorem Fnd.miss {fs tks : List Nm} {t : Nat} {js : List Nat} {l : Nm} (h : Fnd fs tks t js) (e : l.take 2 = pre t) (n : l ∈ fs ∨ l ∈ tks) : Fnd fs tks (t + 1) (js ++ [t]) := by
  refine ⟨h.nd, h.ok, h.un, nd_snoc' h.jn fun z => by have := (h.jl t z).1; omega, fun j hj => ?_, by rw [List.length_append, List.length_singleton]; have := h.eq; omega⟩
  rcases List.mem_append.mp hj with z | z
  · obtain ⟨h1, h2⟩ := h.jl j z
    exact ⟨by omega, h2⟩
  · rw [List.mem_singleton.mp z]
    exact ⟨by omega, List.mem_map.mpr ⟨l, List.mem_append.mpr n, e⟩⟩
abbrev s_law_names : Stmt := topS 22
abbrev N_law_names : List Str := ["deck", "many", "taken", "letters", "way", "stem", "at", "found", "turn", "name", "k"]
theorem sc_law_names : FnScope N_law_names ["deck", "many", "taken"] (defScope s_law_names) := ⟨rfl, rfl, rfl, by decide +kernel, rfl, by decide +kernel, by decide +kernel⟩
section
variable {P : Program} {w : World} {K : PySem.W.Frag} {mg : Str → Option Value} {base : Heap}
def spNames : Sp := fun vs H Q _ => ∃ (d tk : Addr) (n many : Nat) (tks : List Nm), vs = [.ref d, .int many, .ref tk] ∧ SeedAt H d n ∧ n < 90000 ∧ 1 ≤ many ∧ many ≤ 30 ∧ tk ≠ d ∧ TakenAt H tk tks ∧ tks.length ≤ 40 ∧
  ∀ (H' : Hp) (p : Addr) (fs : List Nm), fs.length = many → fs.Nodup → (∀ l ∈ fs, NameOk l) → (∀ l ∈ fs, l ∉ tks) → H p = none → p ≠ d → NamesAt H' p fs → SmX d H H' → SeedAt H' d (n + 1100) → Q (.ref p) H'
theorem ok_names {f : Addr} {fd : FuncData} (F : Fun K "_law_names" "_law_names" s_law_names f fd) (T : TxtG mg) (C_law_draw : Cal P w K mg base 1 "_law_draw" spDraw) : FnOk P w K mg base CX0 2 f fd ["deck", "many", "taken"] spNames := by
  refine F.ok sc_law_names (fun vs H Q E h => ?_) (fun cdv A outer s H vs Q E hr h => ?_)
  · obtain ⟨d, tk, n, many, tks, rfl, _⟩ := h
    rfl
  · obtain ⟨d, tk, n, many, tks, rfl, hD, hn, m1, m30, ntd, hT, ltk, q⟩ := h
    refine ⟨_, (pss_cons (ps_set (i := 3) sc_law_names.nd rfl (.inr rfl) pe_str)
      (pss_cons (ps_set (i := 4) sc_law_names.nd rfl (.inl rfl) (pe_c C_law_draw hr (by decide) rfl (pa_cons (pv 0) (pa_cons pe_int pa_nil))))
      (pss_cons (ps_set (i := 5) sc_law_names.nd rfl (.inl rfl) (pe_join pe_str (pe_lc (own := [("k", 10)]) (g := gName 10) (tt := tYes) rfl sc_law_names.nd (pi_range1 (by rfl) T.range (pa_cons pe_int pa_nil)) (blkOk_by (N := N_law_names) (sc := defScope s_law_names) (by decide +kernel)) (fun _ _ _ _ _ => pg_name (i := 10) sc_law_names.nd rfl (Or.inl rfl)) (fun _ _ _ _ _ => pts_nil) (fun _ _ _ _ _ => (pe_ix ix_str (pv 3) (pe_c C_law_draw hr (by decide) rfl (pa_cons (pv 0) (pa_cons pe_int pa_nil))) (fun _ _ => rfl))))))
      (pss_cons (ps_set (i := 6) sc_law_names.nd rfl (.inl rfl) (pe_c C_law_draw hr (by decide) rfl (pa_cons (pv 0) (pa_cons pe_int pa_nil))))
      (pss_cons (ps_set (i := 7) sc_law_names.nd rfl (.inl rfl) (pe_lst pa_nil))
      (pss_cons (ps_set (i := 8) sc_law_names.nd rfl (.inl rfl) pe_int)
      (pss_cut (ps_while PassesOwn.never (pt_cmpR op_lt (pe_callB call_len_seq (by rfl) T.len bt_len (pa_cons (pv 7) pa_nil)) (pv 1) (nomark _))
        (pss_cons (ps_set (i := 9) sc_law_names.nd rfl (.inl rfl) (pe_ix ix_str (pv 3) (pe_c C_law_draw hr (by decide) rfl (pa_cons (pv 0) (pa_cons pe_int pa_nil))) (fun _ _ => rfl)))
        (pss_cut (ps_if (pt_cmpR op_eq (pv 4) pe_int (nomark _))
          (pss_one (ps_set (i := 9) sc_law_names.nd rfl (.inl rfl) (pe_join pe_str (pe_lc (own := [("k", 10)]) (g := gName 10) (tt := tYes) rfl sc_law_names.nd (pi_range1 (by rfl) T.range (pa_cons (pe_op op_add pe_int (pe_c C_law_draw hr (by decide) rfl (pa_cons (pv 0) (pa_cons pe_int pa_nil)))) pa_nil)) (blkOk_by (N := N_law_names) (sc := defScope s_law_names) (by decide +kernel)) (fun _ _ _ _ _ => pg_name (i := 10) sc_law_names.nd rfl (Or.inl rfl)) (fun _ _ _ _ _ => pts_nil) (fun _ _ _ _ _ => (pe_ix ix_str (pv 3) (pe_c C_law_draw hr (by decide) rfl (pa_cons (pv 0) (pa_cons pe_int pa_nil))) (fun _ _ => rfl)))))))
          pss_nil)
        (pss_cut (ps_if (pt_cmpR op_eq (pv 4) pe_int (nomark _))
          (pss_one (ps_set (i := 9) sc_law_names.nd rfl (.inl rfl) (pe_op op_add_str (pe_op op_add_str (pe_slice C8.sl_txt (pv 5) po_none (po_some (pv 6))) (pv 9)) (pe_slice C8.sl_txt (pv 5) (po_some (pe_op op_add (pv 6) pe_int)) po_none))))
          pss_nil)
        (pss_cut (ps_if (PW.pt (pw_or (pt_cmpR op_in_seq (pv 9) (pv 7) rfl) (pw_or1 (pt_cmpR op_in_seq (pv 9) (pv 2) rfl))))
          (pss_one (ps_set (i := 9) sc_law_names.nd rfl (.inl rfl) (pe_op op_add_str (pe_op op_add_str (pe_ix ix_str (pv 3) (pe_op op_mod (pv 8) pe_int) (fun _ _ => rfl)) (pe_ix ix_str (pv 3) (pe_op op_mod (pe_op op_fdiv (pv 8) pe_int) pe_int) (fun _ _ => rfl))) (pe_slice C8.sl_txt (pv 9) po_none (po_some pe_int)))))
          pss_nil)
        (pss_cut (ps_if (PW.pt (pw_and (pt_cmpR op_notIn_seq (pv 9) (pv 7) rfl) (pw_and1 (pt_cmpR op_notIn_seq (pv 9) (pv 2) rfl))))
          (pss_one (ps_expr (pe_bm PySem.F.plainAttrs_list PySem.F.slot_list_append PySem.F.type_list_append mt_append (pv 7) (pa_cons (pv 9) pa_nil))))
          pss_nil)
        (pss_one (ps_set (i := 8) sc_law_names.nd rfl (.inl rfl) (pe_op op_add (pv 8) pe_int)))))))))
      (pss_one (ps_ret (pv 7)))))))))), ?_⟩
    -- way, stem, at
    refine ⟨_, rfl, d, _, 3, rfl, hD, by omega, by decide, by decide, fun H1 way w0 w1 S1 D1 => ?_⟩
    refine ⟨⟨_, rfl⟩, 8, rfl, by decide, by decide, fun D nD => ?_⟩
    have nDd : D ≠ d := D1.nd nD
    have D0 : H D = none := SmX.free S1 nD nDd
    refine lc_range (lo := 0) (n := (8 : Int).toNat) (fun i H' => ∃ cs : List Nat, cs.length = i ∧ (∀ c ∈ cs, 97 ≤ c ∧ c ≤ 122) ∧ H' D = some (.lst ((cs.map fun c => S [c]).map V.str)) ∧ SmX d H H' ∧ SeedAt H' d (n + 1 + i)) ⟨[], rfl, by simp, upd_same, S1.new nD, D1.new nD⟩ (fun i H' hi hP => ?_) (fun H' hP => ?_)
    · obtain ⟨cs, hlc, hc, hD', SM, DD⟩ := hP
      have hi : i < 8 := hi
      refine ⟨rfl, _, rfl, _, rfl, d, _, 26, rfl, DD, by omega, by decide, by decide, fun H4 r4 r40 r41 S4 D4 => ?_⟩
      obtain ⟨v, hv, mv⟩ := atI_in (xs := abc.cps.toList) r40 (by rw [abc_len]; exact r41)
      refine ⟨abc, r4, v, rfl, rfl, by decide, hv, ?_⟩
      refine ⟨_, S4 D _ nDd hD', by rw [List.length_map, List.length_map]; exact sz_lt (by omega), cs ++ [v], by simp [hlc], fun c hc' => ?_, ?_, (SM.trans S4).put D0, D4.put nDd⟩
      · rcases List.mem_append.mp hc' with z | z
        · exact hc c z
        · rw [List.mem_singleton.mp z]
          exact abc_ok v mv
      · rw [upd_same, List.map_append, List.map_append]
        rfl
    obtain ⟨cs, hlc, hc, hD', SM, DD⟩ := hP
    refine ⟨_, D, cs.map (fun c => S [c]), rfl, rfl, .inl (SqL.of hD'), ?_, ?_⟩
    · rw [one_sum']
      have : ((("" : Str)).length) = 0 := rfl
      rw [this, List.length_map]
      omega
    have e : Txt.join ("" : Str) (cs.map fun c => S [c]) = S cs := by
      have := SX.join_S [] (cs.map fun c => [c])
      rw [List.map_map] at this
      rw [join_none, flat_one] at this
      exact this
    rw [e]
    have lcs : cs.length = 8 := hlc
    clear hlc hD' e
    refine ⟨_, rfl, d, _, 8, rfl, DD, by omega, by decide, by decide, fun H2 at' a0 a1 S2 D2 => ?_⟩
    have SM2 := SM.trans S2
    refine ⟨Nat.zero_le _, fun p np => ?_⟩
    have npd : p ≠ d := D2.nd np
    have np0 : H p = none := SmX.free SM2 np npd
    have SM3 : SmX d H (upd H2 p (.lst [])) := SM2.new np
    have D3 : SeedAt (upd H2 p (.lst [])) d (n + 10 + 10 * 0) := (D2.new np).mono (by show n + 1 + 8 + 1 ≤ _; omega)
    have hN3 : NamesAt (upd H2 p (.lst [])) p [] := upd_same
    generalize upd H2 p (.lst []) = H3 at SM3 D3 hN3
    refine ⟨fun σ' H' => ∃ (fs : List Nm) (t : Nat) (x8 x9 : Option V), σ' = [some (.ref d), some (.int many), some (.ref tk), some (.str abc), some (.int way), some (.str (S cs)), some (.int at'), some (.ref p), x8, x9, none] ∧ (∃ js, Fnd fs tks t js) ∧ t ≤ 100 ∧ fs.length = many ∧ NamesAt H' p fs ∧ SmX d H H' ∧ SeedAt H' d (n + 10 + 10 * t), ?_, fun σ' H' hM => ?_⟩
    · refine ⟨fun m σ' H' => ∃ (fs : List Nm) (t : Nat) (js : List Nat) (x9 : Option V), σ' = [some (.ref d), some (.int many), some (.ref tk), some (.str abc), some (.int way), some (.str (S cs)), some (.int at'), some (.ref p), some (.int t), x9, none] ∧ Fnd fs tks t js ∧ t + m = 500 ∧ fs.length ≤ many ∧ NamesAt H' p fs ∧ SmX d H H' ∧ SeedAt H' d (n + 10 + 10 * t), ⟨500, [], 0, [], none, rfl, ⟨by simp, by simp, by simp, by simp, by simp, rfl⟩, rfl, Nat.zero_le _, hN3, SM3, D3⟩, ?_⟩
      rintro m' σ' H' ⟨fs, t, js, x9, rfl, hF, em, lf, hN, SM', D'⟩
      have tb := hF.le (by omega)
      refine ⟨_, rfl, p, _, rfl, .inl (SqL.of hN), _, rfl, _, _, rfl, rfl, _, rfl, ?_⟩
      rw [List.length_map, List.length_map]
      refine ite2 (fun e => ?_) (fun e => ⟨fs, t, _, _, rfl, ⟨js, hF⟩, by omega, by have e : ¬ ((fs.length : Int) < many) := fun z => e (decide_eq_true z); omega, hN, SM', D'⟩)
      have e := of_decide_eq_true e
      have lf2 : fs.length < many := by omega
      refine ⟨fun σ'' H'' => ∃ (fs' : List Nm) (js' : List Nat) (x9 : Option V), σ'' = [some (.ref d), some (.int many), some (.ref tk), some (.str abc), some (.int way), some (.str (S cs)), some (.int at'), some (.ref p), some (.int ((t : Int) + 1)), x9, none] ∧ Fnd fs' tks (t + 1) js' ∧ fs'.length ≤ many ∧ NamesAt H'' p fs' ∧ SmX d H H'' ∧ SeedAt H'' d (n + 10 + 10 * (t + 1)), ?_, ?_⟩
      · rintro σ'' H'' ⟨fs', js', x9, rfl, h1, h2, h3, h4, h5⟩
        exact ⟨m' - 1, by omega, fs', t + 1, js', x9, rfl, h1, by omega, h2, h3, h4, h5⟩
      -- name
      refine ⟨_, rfl, _, rfl, d, _, 26, rfl, D', by omega, by decide, by decide, fun H4 r4 r40 r41 S4 D4 => ?_⟩
      obtain ⟨v, hv, mv⟩ := atI_in (xs := abc.cps.toList) r40 (by rw [abc_len]; exact r41)
      refine ⟨abc, r4, v, rfl, rfl, by decide, hv, ?_⟩
      have okv := abc_ok v mv
      have SM4 := SM'.trans S4
      have hN4 : NamesAt H4 p fs := S4 p _ npd hN
      refine ⟨fun σ'' H'' => ∃ l : Nm, σ'' = [some (.ref d), some (.int many), some (.ref tk), some (.str abc), some (.int way), some (.str (S cs)), some (.int at'), some (.ref p), some (.int t), some (.str (S l)), none] ∧ NameOk l ∧ (way = 2 → l.length = 1) ∧ NamesAt H'' p fs ∧ SmX d H H'' ∧ SeedAt H'' d (n + 10 + 10 * t + 10), ?_, fun σ'' H'' hM => ?_⟩
      · refine ⟨_, rfl, rfl, _, rfl, ite2 (fun e1 => ?_) (fun e1 => ⟨[v], rfl, ⟨by simp, by simp, fun c hc => by rw [List.mem_singleton.mp hc]; exact okv⟩, fun _ => rfl, hN4, SM4, D4.mono (by omega)⟩)⟩
        have ew : way = 1 := by simpa using e1
        refine ⟨⟨_, rfl⟩, _, rfl, d, _, 8, rfl, D4, by omega, by decide, by decide, fun H5 r5 r50 r51 S5 D5 => ⟨_, _, rfl, rfl, 1 + r5, rfl, by omega, by omega, fun D nD => ?_⟩⟩
        have SM5 := SM4.trans S5
        have nDd : D ≠ d := D5.nd nD
        have D0 : H D = none := SmX.free SM5 nD nDd
        have hN5 : NamesAt H5 p fs := S5 p _ npd hN4
        have nDp : p ≠ D := ne_of_none hN5 nD
        refine lc_range (lo := 0) (n := (1 + r5).toNat) (fun i H' => ∃ cs : List Nat, cs.length = i ∧ (∀ c ∈ cs, 97 ≤ c ∧ c ≤ 122) ∧ H' D = some (.lst ((cs.map fun c => S [c]).map V.str)) ∧ NamesAt H' p fs ∧ SmX d H H' ∧ SeedAt H' d (n + 10 + 10 * t + 2 + i)) ⟨[], rfl, by simp, upd_same, by unfold NamesAt; rw [upd_ne nDp]; exact hN5, SM5.new nD, (D5.new nD).mono (by omega)⟩ (fun i H' hi hP => ?_) (fun H' hP => ?_)
        · obtain ⟨cs, hlc, hc, hD', hN', SM, DD⟩ := hP
          refine ⟨rfl, _, rfl, _, rfl, d, _, 26, rfl, DD, by omega, by decide, by decide, fun H4 r4 r40 r41 S4 D4 => ?_⟩
          obtain ⟨v, hv, mv⟩ := atI_in (xs := abc.cps.toList) r40 (by rw [abc_len]; exact r41)
          refine ⟨abc, r4, v, rfl, rfl, by decide, hv, ?_⟩
          refine ⟨_, S4 D _ nDd hD', by rw [List.length_map, List.length_map]; exact sz_lt (by omega), cs ++ [v], by simp [hlc], fun c hc' => ?_, ?_, ?_, (SM.trans S4).put D0, D4.put nDd⟩
          · rcases List.mem_append.mp hc' with z | z
            · exact hc c z
            · rw [List.mem_singleton.mp z]
              exact abc_ok v mv
          · rw [upd_same, List.map_append, List.map_append]
            rfl
          · unfold NamesAt
            rw [upd_ne nDp]
            exact S4 p _ npd hN'
        · obtain ⟨cs, hlc, hc, hD', hN', SM, DD⟩ := hP
          refine ⟨_, D, cs.map (fun c => S [c]), rfl, rfl, .inl (SqL.of hD'), ?_, ?_⟩
          · rw [one_sum']
            have : ((("" : Str)).length) = 0 := rfl
            rw [this, List.length_map]
            omega
          · have e : Txt.join ("" : Str) (cs.map fun c => S [c]) = S cs := by
              have := SX.join_S [] (cs.map fun c => [c])
              rw [List.map_map] at this
              rw [join_none, flat_one] at this
              exact this
            rw [e]
            exact ⟨cs, rfl, ⟨by omega, by omega, hc⟩, fun z => by omega, hN', SM, DD.mono (by omega)⟩
      obtain ⟨l, rfl, lok, l2, hN5, SM5, D5⟩ := hM
      -- amid the stem
      refine ⟨fun σ3 H3 => ∃ l : Nm, σ3 = [some (.ref d), some (.int many), some (.ref tk), some (.str abc), some (.int way), some (.str (S cs)), some (.int at'), some (.ref p), some (.int t), some (.str (S l)), none] ∧ NameOk l ∧ H3 = H'', ?_, fun σ3 H3 hM => ?_⟩
      · refine ⟨_, rfl, rfl, _, rfl, ite2 (fun e1 => ?_) (fun e1 => ⟨l, rfl, lok, rfl⟩)⟩
        have ew : way = 2 := by simpa using e1
        have l21 := l2 ew
        refine ⟨_, rfl, _, rfl, at', rfl, S cs, rfl, by rw [SX.S_len]; exact sz_le (by omega), ?_⟩
        refine ⟨_, rfl, S (cs.take at'.toNat), S l, congrArg V.str (SX.slice_to a0), rfl, by rw [SX.S_len, SX.S_len, List.length_take]; exact sz_le (by omega), ?_⟩
        refine ⟨_, rfl, _, rfl, at', 1, rfl, rfl, at' + 1, rfl, S cs, rfl, by rw [SX.S_len]; exact sz_le (by omega), S (cs.take at'.toNat ++ l), S (cs.drop (at' + 1).toNat), congrArg V.str (SX.S_cat _ _), congrArg V.str (SX.slice_from (by omega)), by rw [SX.S_len, SX.S_len, List.length_append, List.length_take, List.length_drop]; exact sz_le (by omega), ?_⟩
        refine ⟨cs.take at'.toNat ++ l ++ cs.drop (at' + 1).toNat, by rw [SX.S_cat]; rfl, ⟨?_, ?_, fun c hc' => ?_⟩, rfl⟩
        · simp
          omega
        · simp
          omega
        · rcases List.mem_append.mp hc' with z | z
          · rcases List.mem_append.mp z with z | z
            · exact hc c (List.mem_of_mem_take z)
            · exact lok.2.2 c z
          · exact hc c (List.mem_of_mem_drop z)
      obtain ⟨l, rfl, lok, rfl⟩ := hM
      have hT5 : TakenAt H3 tk tks := hT.mv SM5 ntd
      -- made otherwise
      refine ⟨fun σ4 H4 => ∃ l : Nm, σ4 = [some (.ref d), some (.int many), some (.ref tk), some (.str abc), some (.int way), some (.str (S cs)), some (.int at'), some (.ref p), some (.int t), some (.str (S l)), none] ∧ NameOk l ∧ ((l ∉ fs ∧ l ∉ tks) ∨ l.take 2 = pre t) ∧ H4 = H3, ?_, fun σ4 H4 hM => ?_⟩
      · have ok2 : NameOk (pre t ++ l.take 6) := by
          refine ⟨by simp [pre], ?_, fun c hc' => ?_⟩
          · rw [List.length_append, List.length_take]
            show 2 + _ ≤ 8
            omega
          · rcases List.mem_append.mp hc' with z | z
            · unfold pre at z
              simp at z
              omega
            · exact lok.2.2 c (List.mem_of_mem_take z)
        have et : (t : Int) / 26 % 26 = (((t / 26 % 26 : Nat)) : Int) := by omega
        have em' : (t : Int) % 26 = (((t % 26 : Nat)) : Int) := by omega
        have b1 : atI abc.cps.toList ((t : Int) / 26 % 26) = some (97 + t / 26 % 26) := by
          rw [et]
          exact abc_at ⟨t / 26 % 26, by omega⟩
        have b2 : atI abc.cps.toList ((t : Int) % 26) = some (97 + t % 26) := by
          rw [em']
          exact abc_at ⟨t % 26, by omega⟩
        refine ⟨_, rfl, _, rfl, p, _, rfl, .inl (SqL.of hN5), rfl, flat_strs fs, _, rfl, ?_⟩
        rw [inV_strs]
        by_cases c1 : l ∈ fs
        · rw [decide_eq_true c1]
          refine iteT (iteT ?_)
          refine ⟨_, rfl, _, rfl, _, _, rfl, rfl, (by show (0 : Int) < _; decide), abc, (t : Int) % 26, _, rfl, rfl, by decide, b2, ?_⟩
          refine ⟨_, rfl, _, rfl, _, _, rfl, rfl, ⟨by decide, by decide⟩, _, _, rfl, rfl, (by show (0 : Int) < _; decide), abc, (t : Int) / 26 % 26, _, rfl, rfl, by decide, b1, ?_⟩
          refine ⟨S [97 + t % 26], S [97 + t / 26 % 26], rfl, rfl, by rw [SX.S_len, SX.S_len]; exact sz_le (by simp), ?_⟩
          refine ⟨_, rfl, 6, rfl, S l, rfl, by rw [SX.S_len]; exact sz_le (by have := lok.2.1; omega), ?_⟩
          refine ⟨S (pre t), S (l.take 6), congrArg V.str (SX.S_cat _ _), congrArg V.str (SX.slice_to (by decide)), by rw [SX.S_len, SX.S_len, List.length_take]; exact sz_le (by simp [pre]; omega), ?_⟩
          exact ⟨pre t ++ l.take 6, by rw [SX.S_cat]; rfl, ok2, .inr (by simp [pre]), rfl⟩
        · rw [decide_eq_false c1]
          refine iteF ?_
          refine ⟨_, rfl, _, rfl, tk, _, rfl, hT5.sq, rfl, flat_strs tks, _, rfl, ?_⟩
          rw [inV_strs]
          by_cases c2 : l ∈ tks
          · rw [decide_eq_true c2]
            refine iteT ?_
            refine ⟨_, rfl, _, rfl, _, _, rfl, rfl, (by show (0 : Int) < _; decide), abc, (t : Int) % 26, _, rfl, rfl, by decide, b2, ?_⟩
            refine ⟨_, rfl, _, rfl, _, _, rfl, rfl, ⟨by decide, by decide⟩, _, _, rfl, rfl, (by show (0 : Int) < _; decide), abc, (t : Int) / 26 % 26, _, rfl, rfl, by decide, b1, ?_⟩
            refine ⟨S [97 + t % 26], S [97 + t / 26 % 26], rfl, rfl, by rw [SX.S_len, SX.S_len]; exact sz_le (by simp), ?_⟩
            refine ⟨_, rfl, 6, rfl, S l, rfl, by rw [SX.S_len]; exact sz_le (by have := lok.2.1; omega), ?_⟩
            refine ⟨S (pre t), S (l.take 6), congrArg V.str (SX.S_cat _ _), congrArg V.str (SX.slice_to (by decide)), by rw [SX.S_len, SX.S_len, List.length_take]; exact sz_le (by simp [pre]; omega), ?_⟩
            exact ⟨pre t ++ l.take 6, by rw [SX.S_cat]; rfl, ok2, .inr (by simp [pre]), rfl⟩
          · rw [decide_eq_false c2]
            exact iteF ⟨l, rfl, lok, .inl ⟨c1, c2⟩, rfl⟩
      obtain ⟨l, rfl, lok, lc, rfl⟩ := hM
      -- put behind
      refine ⟨fun σ5 H5 => ∃ (fs' : List Nm) (js' : List Nat), σ5 = [some (.ref d), some (.int many), some (.ref tk), some (.str abc), some (.int way), some (.str (S cs)), some (.int at'), some (.ref p), some (.int t), some (.str (S l)), none] ∧ Fnd fs' tks (t + 1) js' ∧ fs'.length ≤ many ∧ NamesAt H5 p fs' ∧ SmX d H H5 ∧ SeedAt H5 d (n + 10 + 10 * (t + 1)), ?_, fun σ5 H5 hM => ?_⟩
      · refine ⟨_, rfl, _, rfl, p, _, rfl, .inl (SqL.of hN5), rfl, flat_strs fs, _, rfl, ?_⟩
        rw [inV_strs]
        by_cases c1 : l ∈ fs
        · rw [decide_eq_true c1]
          refine iteF (iteF ?_)
          have lc : l.take 2 = pre t := lc.resolve_left fun z => z.1 c1
          exact ⟨fs, js ++ [t], rfl, hF.miss lc (.inl c1), lf, hN5, SM5, D5.mono (by omega)⟩
        · rw [decide_eq_false c1]
          refine iteT ?_
          refine ⟨_, rfl, _, rfl, tk, _, rfl, hT5.sq, rfl, flat_strs tks, _, rfl, ?_⟩
          rw [inV_strs]
          by_cases c2 : l ∈ tks
          · rw [decide_eq_true c2]
            refine iteF ?_
            have lc : l.take 2 = pre t := lc.resolve_left fun z => z.2 c2
            exact ⟨fs, js ++ [t], rfl, hF.miss lc (.inr c2), lf, hN5, SM5, D5.mono (by omega)⟩
          · rw [decide_eq_false c2]
            refine iteT ?_
            refine ⟨_, rfl, .inl ⟨rfl, _, SqL.of hN5⟩, _, rfl, p, _, _, rfl, rfl, hN5, by rw [List.length_map, List.length_map]; exact sz_lt (by omega), ?_⟩
            refine ⟨fs ++ [l], js, rfl, hF.hit lok c1 c2, by rw [List.length_append, List.length_singleton]; omega, ?_, SM5.put np0, (D5.put npd).mono (by omega)⟩
            unfold NamesAt
            rw [upd_same, List.map_append, List.map_append]
            rfl
      obtain ⟨fs', js', rfl, h1, h2, h3, h4, h5⟩ := hM
      exact ⟨_, rfl, _, _, rfl, rfl, fs', js', _, rfl, h1, h2, h3, h4, h5⟩
    · obtain ⟨fs, t, x8, x9, rfl, ⟨js, hF⟩, t1, lf, hN, SM', D'⟩ := hM
      exact ⟨_, rfl, q _ p fs lf hF.nd hF.ok hF.un np0 npd hN SM' (D'.mono (by omega))⟩
end
end Far

namespace Far
open PySem PySem.Spec PyProof.Rows L2
open C8 (pss_cut tCut)
open SX (S)
theorem SeedAt.tk {H H' : Hp} {d : Addr} {n : Nat} (h : SeedAt H d n) (s : SmX d H H') : TK H H' := by
  obtain ⟨xs, e⟩ := h.lst
  exact s.tk e
theorem seq_ix {r : Int} {n : Nat} (h0 : 0 ≤ r) (h1 : r < n) : seqIndex? r n = some r.toNat := by
  refine (ixN_seq (j := r.toNat) ?_).1
  unfold ixN
  rw [if_pos h0, if_pos h1]
/-- within the making of a tree: the names at p, the ties so far at t -/
structure Tr (H H' : Hp) (d p t : Addr) (n : Nat) (ls : List Nm) (tvs : List V) (ts : List Tie) : Prop where
  nm : NamesAt H' p ls
  tt : H' t = some (.lst tvs)
  al : DtAll H' tvs (ts.map tieD)
  sm : SmX d H H'
  dk : SeedAt H' d n
theorem Tr.new {H H' : Hp} {d p t q : Addr} {n : Nat} {ls : List Nm} {tvs : List V} {ts : List Tie} {o : HO} (x : Tr H H' d p t n ls tvs ts) (nq : H' q = none) : Tr H (upd H' q o) d p t n ls tvs ts :=
  ⟨by unfold NamesAt; rw [upd_ne (ne_of_none x.nm nq)]; exact x.nm, by rw [upd_ne (ne_of_none x.tt nq)]; exact x.tt, DtAll.keep (TK.new nq) x.al, x.sm.new nq, x.dk.new nq⟩
theorem Tr.step {H H' H'' : Hp} {d p t : Addr} {n m : Nat} {ls : List Nm} {tvs : List V} {ts : List Tie} (x : Tr H H' d p t n ls tvs ts) (npd : p ≠ d) (ntd : t ≠ d) (s : SmX d H' H'') (D : SeedAt H'' d m) : Tr H H'' d p t m ls tvs ts :=
  ⟨s p _ npd x.nm, s t _ ntd x.tt, DtAll.keep (x.dk.tk s) x.al, x.sm.trans s, D⟩
theorem Tr.put {H H' : Hp} {d p t q : Addr} {n : Nat} {ls : List Nm} {tvs xs : List V} {ts : List Tie} {o : HO} (x : Tr H H' d p t n ls tvs ts) (np : q ≠ p) (nt : q ≠ t) (nd : q ≠ d) (n0 : H q = none) (hq : H' q = some (.lst xs)) : Tr H (upd H' q o) d p t n ls tvs ts :=
  ⟨by unfold NamesAt; rw [upd_ne np.symm]; exact x.nm, by rw [upd_ne nt.symm]; exact x.tt, DtAll.keep (TK.mut hq) x.al, x.sm.put n0, x.dk.put nd⟩
theorem Tr.take {H H' : Hp} {d p t : Addr} {n k : Nat} {ls : List Nm} {tvs : List V} {ts : List Tie} (x : Tr H H' d p t n ls tvs ts) (np : p ≠ t) (nd : t ≠ d) (n0 : H t = none) : Tr H (upd H' t (.lst (tvs.eraseIdx k))) d p t n ls (tvs.eraseIdx k) (ts.eraseIdx k) :=
  ⟨by unfold NamesAt; rw [upd_ne np]; exact x.nm, upd_same, by rw [← map_erase]; exact DtAll.del k (DtAll.keep (TK.mut x.tt) x.al), x.sm.put n0, x.dk.put nd⟩
theorem Tr.mono {H H' : Hp} {d p t : Addr} {n m : Nat} {ls : List Nm} {tvs : List V} {ts : List Tie} (x : Tr H H' d p t n ls tvs ts) (h : n ≤ m) : Tr H H' d p t m ls tvs ts := ⟨x.nm, x.tt, x.al, x.sm, x.dk.mono h⟩
abbrev s_law_tree : Stmt := topS 23
abbrev N_law_tree : List Str := ["deck", "most", "taken", "many", "shape", "far", "names", "ties", "k", "to", "pair", "left", "places"]
theorem sc_law_tree : FnScope N_law_tree ["deck", "most", "taken"] (defScope s_law_tree) := ⟨rfl, rfl, rfl, by decide +kernel, rfl, by decide +kernel, by decide +kernel⟩
section
variable {P : Program} {w : World} {K : PySem.W.Frag} {mg : Str → Option Value} {base : Heap}
def spTree : Sp := fun vs H Q _ => ∃ (d tk : Addr) (n most : Nat) (tks : List Nm), vs = [.ref d, .int most, .ref tk] ∧ SeedAt H d n ∧ n < 80000 ∧ 1 ≤ most ∧ most ≤ 30 ∧ tk ≠ d ∧ TakenAt H tk tks ∧ tks.length ≤ 40 ∧
  ∀ (H' : Hp) (t : Addr) (pl : List Nm) (ts : List Tie), IsTree pl ts → (∀ l ∈ pl, NameOk l) → (∀ l ∈ pl, l ∉ tks) → pl.length ≤ most → Dt H' (.ref t) (treeD pl ts) → SmX d H H' → SeedAt H' d (n + 1400) → Q (.ref t) H'
theorem ok_tree {f : Addr} {fd : FuncData} (F : Fun K "_law_tree" "_law_tree" s_law_tree f fd) (T : TxtG mg) (C_law_draw : Cal P w K mg base 1 "_law_draw" spDraw) (C_law_names : Cal P w K mg base 2 "_law_names" spNames) : FnOk P w K mg base CX0 3 f fd ["deck", "most", "taken"] spTree := by
  refine F.ok sc_law_tree (fun vs H Q E h => ?_) (fun cdv A outer s H vs Q E hr h => ?_)
  · obtain ⟨d, tk, n, most, tks, rfl, _⟩ := h
    rfl
  · obtain ⟨d, tk, n, most, tks, rfl, hD, hn, hm1, hm, ntd', hT, ltk, q⟩ := h
    have e6 : (10 : Int) ^ (6 : Int).toNat = 1000000 := by decide
    refine ⟨_, (pss_cons (ps_set (i := 3) sc_law_tree.nd rfl (.inl rfl) (pe_ix ix_list (pe_lst (pa_cons (pe_op op_add pe_int (pe_c C_law_draw hr (by decide) rfl (pa_cons (pv 0) (pa_cons (pv 1) pa_nil)))) (pa_cons (pv 1) (pa_cons (pe_op op_add pe_int (pe_c C_law_draw hr (by decide) rfl (pa_cons (pv 0) (pa_cons (pe_callB (call_min2 rfl) (by rfl) T.min bt_min (pa_cons (pv 1) (pa_cons pe_int pa_nil))) pa_nil)))) pa_nil)))) (pe_c C_law_draw hr (by decide) rfl (pa_cons (pv 0) (pa_cons pe_int pa_nil))) (fun _ _ => rfl)))
      (pss_cons (ps_set (i := 4) sc_law_tree.nd rfl (.inl rfl) (pe_c C_law_draw hr (by decide) rfl (pa_cons (pv 0) (pa_cons pe_int pa_nil))))
      (pss_cons (ps_set (i := 5) sc_law_tree.nd rfl (.inl rfl) (pe_ix ix_list (pe_lst (pa_cons pe_int (pa_cons pe_int (pa_cons pe_int (pa_cons (pe_op op_pow pe_int pe_int) pa_nil))))) (pe_c C_law_draw hr (by decide) rfl (pa_cons (pv 0) (pa_cons pe_int pa_nil))) (fun _ _ => rfl)))
      (pss_cons (ps_set (i := 6) sc_law_tree.nd rfl (.inl rfl) (pe_c C_law_names hr (by decide) rfl (pa_cons (pv 0) (pa_cons (pv 3) (pa_cons (pv 2) pa_nil)))))
      (pss_cons (ps_set (i := 7) sc_law_tree.nd rfl (.inr rfl) (pe_lst pa_nil))
      (pss_cut (ps_for PassesOwn.never rfl (pi_range2 (by rfl) T.range (pa_cons pe_int (pa_cons (pv 3) pa_nil))) (pg_name (i := 8) sc_law_tree.nd rfl (.inl rfl))
        (pss_cons (ps_set (i := 9) sc_law_tree.nd rfl (.inl rfl) (pe_ix ix_list (pe_lst (pa_cons (pe_c C_law_draw hr (by decide) rfl (pa_cons (pv 0) (pa_cons (pv 8) pa_nil))) (pa_cons (pe_op op_sub (pv 8) pe_int) (pa_cons pe_int (pa_cons (pe_callB (call_min2 rfl) (by rfl) T.min bt_min (pa_cons (pe_op op_sub (pv 8) pe_int) (pa_cons (pe_op op_fdiv (pv 8) pe_int) pa_nil))) (pa_cons (pe_callB (call_max2 rfl) (by rfl) T.max bt_max (pa_cons pe_int (pa_cons (pe_op op_sub (pv 8) pe_int) pa_nil))) pa_nil)))))) (pv 4) (fun _ _ => rfl)))
        (pss_cons (ps_set (i := 10) sc_law_tree.nd rfl (.inl rfl) (pe_lst (pa_cons (pe_ix ix_list (pv 6) (pv 9) (fun _ _ => rfl)) (pa_cons (pe_ix ix_list (pv 6) (pv 8) (fun _ _ => rfl)) pa_nil))))
        (pss_cut (ps_if (pt_cmpR op_eq (pe_c C_law_draw hr (by decide) rfl (pa_cons (pv 0) (pa_cons pe_int pa_nil))) pe_int (nomark _))
          (pss_one (ps_set (i := 10) sc_law_tree.nd rfl (.inl rfl) (pe_revL (pv 10))))
          pss_nil)
        (pss_one (ps_expr (pe_bm PySem.F.plainAttrs_list PySem.F.slot_list_append PySem.F.type_list_append mt_append (pv 7) (pa_cons (pe_tup (pa_cons (pe_ix ix_list (pv 10) pe_int (fun _ _ => rfl)) (pa_cons (pe_ix ix_list (pv 10) pe_int (fun _ _ => rfl)) (pa_cons (pe_op op_add pe_int (pe_c C_law_draw hr (by decide) rfl (pa_cons (pv 0) (pa_cons (pv 5) pa_nil)))) pa_nil)))) pa_nil))))))))
      (pss_cons (ps_set (i := 11) sc_law_tree.nd rfl (.inr rfl) (pe_callTy call_list_of (by rfl) T.list bt_list (pa_cons (pv 6) pa_nil)))
      (pss_cons (ps_set (i := 12) sc_law_tree.nd rfl (.inl rfl) (pe_tupleOf (by rfl) T.tuple (pe_lc (own := [("k", 8)]) (g := gName 8) (tt := tYes) rfl sc_law_tree.nd (pi_range1 (by rfl) T.range (pa_cons (pv 3) pa_nil)) (blkOk_by (N := N_law_tree) (sc := defScope s_law_tree) (by decide +kernel)) (fun _ _ _ _ _ => pg_name (i := 8) sc_law_tree.nd rfl (Or.inl rfl)) (fun _ _ _ _ _ => pts_nil) (fun _ _ _ _ _ => (show PE _ _ (tBM K "list" rPopAt _ _) from pe_bm PySem.F.plainAttrs_list PySem.F.slot_list_pop PySem.F.type_list_pop mt_popAt (pv 11) (pa_cons (pe_c C_law_draw hr (by decide) rfl (pa_cons (pv 0) (pa_cons (pe_callB (lenK (K := K)) (by rfl) T.len bt_len (pa_cons (pv 11) pa_nil)) pa_nil))) pa_nil))))))
      (pss_one (ps_ret (pe_tup (pa_cons (pv 12) (pa_cons (pe_tupleOf (by rfl) T.tuple (pe_lc (own := [("k", 8)]) (g := gName 8) (tt := tYes) rfl sc_law_tree.nd (pi_range1 (by rfl) T.range (pa_cons (pe_op op_sub (pv 3) pe_int) pa_nil)) (blkOk_by (N := N_law_tree) (sc := defScope s_law_tree) (by decide +kernel)) (fun _ _ _ _ _ => pg_name (i := 8) sc_law_tree.nd rfl (Or.inl rfl)) (fun _ _ _ _ _ => pts_nil) (fun _ _ _ _ _ => (show PE _ _ (tBM K "list" rPopAt _ _) from pe_bm PySem.F.plainAttrs_list PySem.F.slot_list_pop PySem.F.type_list_pop mt_popAt (pv 7) (pa_cons (pe_c C_law_draw hr (by decide) rfl (pa_cons (pv 0) (pa_cons (pe_callB (lenK (K := K)) (by rfl) T.len bt_len (pa_cons (pv 7) pa_nil)) pa_nil))) pa_nil))))) pa_nil))))))))))))), ?_⟩
    -- many
    refine ⟨_, rfl, _, rfl, d, _, most, rfl, hD, by omega, by omega, by omega, fun H1 r1 r10 r11 S1 D1 => ⟨_, _, rfl, rfl, ?_⟩⟩
    refine ⟨_, rfl, _, rfl, _, rfl, _, _, rfl, d, _, _, rfl, D1, by omega, by split <;> omega, by split <;> omega, fun H2 r2 r20 r21 S2 D2 => ⟨_, _, rfl, rfl, ?_⟩⟩
    have r22 : r2 < most := by split at r21 <;> omega
    refine ⟨(by show 3 ≤ sizeLine; decide), fun p1 np1 => ?_⟩
    refine ⟨_, rfl, d, _, 3, rfl, D2.new np1, by omega, by decide, by decide, fun H3 r3 r30 r31 S3 D3 => ?_⟩
    have hp1 := S3 p1 _ (D2.nd np1) upd_same
    have SM3 : SmX d H H3 := ((S1.trans S2).new np1).trans S3
    obtain ⟨v, hv, mv⟩ := atI_in (xs := [V.int (1 + r1), .int most, .int (1 + r2)]) r30 (by simpa using r31)
    have hs : ∃ m : Nat, v = .int m ∧ 1 ≤ m ∧ m ≤ most := by
      simp only [List.mem_cons, List.not_mem_nil, or_false] at mv
      rcases mv with e | e | e
      · exact ⟨(1 + r1).toNat, by rw [e]; congr 1 <;> omega, by omega, by omega⟩
      · exact ⟨most, e, by omega, by omega⟩
      · exact ⟨(1 + r2).toNat, by rw [e]; congr 1 <;> omega, by omega, by omega⟩
    obtain ⟨many, rfl, m1, mm⟩ := hs
    refine ⟨p1, _, r3, _, rfl, rfl, SqL.of hp1, hv, ?_⟩
    -- shape, far
    refine ⟨_, rfl, d, _, 5, rfl, D3, by omega, by decide, by decide, fun H4 shape w0 w1 S4 D4 => ?_⟩
    refine ⟨_, _, rfl, rfl, ⟨by decide, by decide, by decide⟩, (by show 4 ≤ sizeLine; decide), fun p2 np2 => ?_⟩
    refine ⟨_, rfl, d, _, 4, rfl, D4.new np2, by omega, by decide, by decide, fun H5 r5 r50 r51 S5 D5 => ?_⟩
    have hp2 := S5 p2 _ (D4.nd np2) upd_same
    have SM5 : SmX d H H5 := ((SM3.trans S4).new np2).trans S5
    obtain ⟨v, hv, mv⟩ := atI_in (xs := [V.int 1, .int 2, .int 9, .int (10 ^ (6 : Int).toNat)]) r50 (by simpa using r51)
    have hs : ∃ m : Int, v = .int m ∧ 1 ≤ m ∧ m ≤ 1000000 := by
      rw [e6] at mv
      simp only [List.mem_cons, List.not_mem_nil, or_false] at mv
      rcases mv with e | e | e | e
      · exact ⟨1, e, by omega, by omega⟩
      · exact ⟨2, e, by omega, by omega⟩
      · exact ⟨9, e, by omega, by omega⟩
      · exact ⟨1000000, e, by omega, by omega⟩
    obtain ⟨far, rfl, f1, f2⟩ := hs
    refine ⟨p2, _, r5, _, rfl, rfl, SqL.of hp2, hv, ?_⟩
    have hT5 := hT.mv SM5 ntd'
    -- names
    refine ⟨_, rfl, _, rfl, _, rfl, d, tk, _, many, tks, rfl, D5, by omega, m1, by omega, ntd', hT5, ltk, fun H6 p ls hl nd ok un np5 npd hN6 S6 D6 => ?_⟩
    have SM6 : SmX d H H6 := SM5.trans S6
    have np0 : H p = none := SM5.free np5 npd
    -- ties
    refine ⟨Nat.zero_le _, fun t nt => ?_⟩
    have ntd : t ≠ d := D6.nd nt
    have ntp : p ≠ t := ne_of_none hN6 nt
    have nt0 : H t = none := SM6.free nt ntd
    refine ⟨fun σ' H' => ∃ (x8 x9 x10 : Option V) (tvs : List V) (ts : List Tie), σ' = [some (.ref d), some (.int most), some (.ref tk), some (.int many), some (.int shape), some (.int far), some (.ref p), some (.ref t), x8, x9, x10, none, none] ∧ Grown ls ts ∧ Tr H H' d p t (n + 1250) ls tvs ts, ?_, fun σ' H' hM => ?_⟩
    · refine ⟨_, rfl, 1, many, rfl, ⟨by decide, by decide, by omega, by omega⟩, ?_⟩
      refine for_range (lo := 1) (n := ((many : Int) - 1).toNat) (fun i σ' H' => ∃ (x8 x9 x10 : Option V) (tvs : List V) (ts : List Tie), σ' = [some (.ref d), some (.int most), some (.ref tk), some (.int many), some (.int shape), some (.int far), some (.ref p), some (.ref t), x8, x9, x10, none, none] ∧ Grown (ls.take (i + 1)) ts ∧ Tr H H' d p t (n + 1110 + 3 * i) ls tvs ts) ⟨none, none, none, [], [], rfl, ?_, ?_, upd_same, .nil, SM6.new nt, (D6.new nt).mono (by omega)⟩ (fun i σ' H' hi hP => ?_) (fun σ' H' hP => ?_)
      · cases ls with
        | nil => simp at hl; omega
        | cons a r => exact Grown.one a
      · unfold NamesAt
        rw [upd_ne ntp]
        exact hN6
      · obtain ⟨x8, x9, x10, tvs, ts, rfl, hG, X0⟩ := hP
        have hi' : i + 1 < many := by omega
        -- to
        refine ⟨_, rfl, _, rfl, d, _, _, rfl, X0.dk, by omega, by omega, by omega, fun H7 a a0 a1 S7 D7 => ?_⟩
        have X7 := X0.step npd ntd S7 D7
        refine ⟨_, rfl, _, _, rfl, rfl, _, rfl, _, _, rfl, rfl, _, rfl, _, _, rfl, rfl, ⟨by decide, by decide⟩, _, _, rfl, _, rfl, _, _, rfl, rfl, _, _, rfl, (by show 5 ≤ sizeLine; decide), fun p8 np8 => ?_⟩
        have X8 := X7.new (o := .lst [V.int a, .int (1 + (i : Int) - 1), .int 0, .int (if (1 + (i : Int)) / 2 < 1 + (i : Int) - 1 then (1 + (i : Int)) / 2 else 1 + (i : Int) - 1), .int (if 1 + (i : Int) - 3 > 0 then 1 + (i : Int) - 3 else 0)]) np8
        obtain ⟨v, hv, mv⟩ := atI_in (xs := [V.int a, .int (1 + (i : Int) - 1), .int 0, .int (if (1 + (i : Int)) / 2 < 1 + (i : Int) - 1 then (1 + (i : Int)) / 2 else 1 + (i : Int) - 1), .int (if 1 + (i : Int) - 3 > 0 then 1 + (i : Int) - 3 else 0)]) w0 (by simpa using w1)
        have hs : ∃ m : Nat, v = .int m ∧ m < i + 1 := by
          simp only [List.mem_cons, List.not_mem_nil, or_false] at mv
          rcases mv with e | e | e | e | e
          · exact ⟨a.toNat, by rw [e]; congr 1 <;> omega, by omega⟩
          · exact ⟨i, by rw [e]; congr 1 <;> omega, by omega⟩
          · exact ⟨0, e, by omega⟩
          · by_cases z : (1 + (i : Int)) / 2 < 1 + (i : Int) - 1
            · rw [if_pos z] at e
              exact ⟨(1 + i) / 2, by rw [e]; congr 1 <;> omega, by omega⟩
            · rw [if_neg z] at e
              exact ⟨i, by rw [e]; congr 1 <;> omega, by omega⟩
          · by_cases z : 1 + (i : Int) - 3 > 0
            · rw [if_pos z] at e
              exact ⟨i - 2, by rw [e]; congr 1 <;> omega, by omega⟩
            · rw [if_neg z] at e
              exact ⟨0, e, by omega⟩
        obtain ⟨at', rfl, hat⟩ := hs
        refine ⟨_, rfl, p8, _, shape, _, rfl, rfl, SqL.of upd_same, hv, ?_⟩
        -- pair
        have la : at' < ls.length := by omega
        have lk : i + 1 < ls.length := by omega
        have ga : ((ls.map S).map V.str)[at']? = some (.str (S ls[at'])) := by
          rw [List.getElem?_map, List.getElem?_map, List.getElem?_eq_getElem la]
          rfl
        have gk : ((ls.map S).map V.str)[i + 1]? = some (.str (S ls[i + 1])) := by
          rw [List.getElem?_map, List.getElem?_map, List.getElem?_eq_getElem lk]
          rfl
        have ek : 1 + (i : Int) = ((i + 1 : Nat) : Int) := by omega
        refine ⟨_, rfl, _, rfl, p, _, at', _, rfl, rfl, SqL.of X8.nm, atI_nat ga, _, rfl, _, rfl, p, _, 1 + (i : Int), _, rfl, rfl, SqL.of X8.nm, by rw [ek]; exact atI_nat gk, (by show 2 ≤ sizeLine; decide), fun e1 ne1 => ?_⟩
        have X9 := X8.new (o := .lst [.str (S ls[at']), .str (S ls[i + 1])]) ne1
        have he1 : (upd (upd H7 p8 (.lst [V.int a, .int (1 + (i : Int) - 1), .int 0, .int (if (1 + (i : Int)) / 2 < 1 + (i : Int) - 1 then (1 + (i : Int)) / 2 else 1 + (i : Int) - 1), .int (if 1 + (i : Int) - 3 > 0 then 1 + (i : Int) - 3 else 0)])) e1 (.lst [.str (S ls[at']), .str (S ls[i + 1])])) e1 = some (.lst [.str (S ls[at']), .str (S ls[i + 1])]) := upd_same
        generalize upd (upd H7 p8 (.lst [V.int a, .int (1 + (i : Int) - 1), .int 0, .int (if (1 + (i : Int)) / 2 < 1 + (i : Int) - 1 then (1 + (i : Int)) / 2 else 1 + (i : Int) - 1), .int (if 1 + (i : Int) - 3 > 0 then 1 + (i : Int) - 3 else 0)])) e1 (.lst [.str (S ls[at']), .str (S ls[i + 1])]) = H9 at X9 he1
        have ed1 : e1 ≠ d := X8.dk.nd ne1
        refine ⟨fun σ'' H'' => ∃ (e : Addr) (xa xb : Nm), σ'' = [some (.ref d), some (.int most), some (.ref tk), some (.int many), some (.int shape), some (.int far), some (.ref p), some (.ref t), some (.int (1 + (i : Int))), some (.int at'), some (.ref e), none, none] ∧ H'' e = some (.lst [.str (S xa), .str (S xb)]) ∧ e ≠ d ∧ ((xa = ls[at'] ∧ xb = ls[i + 1]) ∨ (xa = ls[i + 1] ∧ xb = ls[at'])) ∧ Tr H H'' d p t (n + 1110 + 3 * i + 2) ls tvs ts, ?_, fun σ'' H'' hM => ?_⟩
        · refine ⟨_, rfl, d, _, 2, rfl, X9.dk, by omega, by decide, by decide, fun H10 b b0 b1 S10 D10 => ?_⟩
          have X10 := X9.step npd ntd S10 D10
          have he10 := S10 e1 _ ed1 he1
          refine ⟨rfl, _, rfl, ite2 (fun e => ?_) (fun e => ?_)⟩
          · refine ⟨_, rfl, e1, _, rfl, SqL.of he10, fun e2 ne2 => ?_⟩
            exact ⟨e2, ls[i + 1], ls[at'], rfl, upd_same, X10.dk.nd ne2, .inr ⟨rfl, rfl⟩, X10.new ne2⟩
          · exact ⟨e1, ls[at'], ls[i + 1], rfl, he10, ed1, .inl ⟨rfl, rfl⟩, X10⟩
        obtain ⟨e, xa, xb, rfl, he, ed, hab, X10⟩ := hM
        -- ties.append
        refine ⟨_, rfl, .inl ⟨rfl, _, SqL.of X10.tt⟩, _, rfl, e, _, 0, _, rfl, rfl, SqL.of he, rfl, _, rfl, e, _, 1, _, rfl, rfl, SqL.of he, rfl, ?_⟩
        refine ⟨_, rfl, _, rfl, d, _, far, rfl, X10.dk, by omega, by omega, by omega, fun H11 lg l0 l1 S11 D11 => ⟨_, _, rfl, rfl, ?_⟩⟩
        have X11 := X10.step npd ntd S11 D11
        refine ⟨(by show 3 ≤ sizeLine; decide), fun e4 ne4 => ?_⟩
        have X12 := X11.new (o := .tup [.str (S xa), .str (S xb), .int (1 + lg)]) ne4
        have tl : tvs.length = ts.length := by
          have := DtAll.len X12.al
          rwa [List.length_map] at this
        have gl := hG.len
        rw [List.length_take] at gl
        refine ⟨t, tvs, _, rfl, rfl, X12.tt, sz_lt (by omega), ?_⟩
        have tk' : TK (upd H11 e4 (.tup [.str (S xa), .str (S xb), .int (1 + lg)])) (upd (upd H11 e4 (.tup [.str (S xa), .str (S xb), .int (1 + lg)])) t (.lst (tvs ++ [.ref e4]))) := TK.mut X12.tt
        refine ⟨_, _, _, tvs ++ [.ref e4], ts ++ [(xa, xb, 1 + lg)], rfl, ?_, ?_, upd_same, ?_, X12.sm.put nt0, (X12.dk.put ntd).mono (by omega)⟩
        · have e5 : ls.take (i + 1 + 1) = ls.take (i + 1) ++ [ls[i + 1]] := by
            rw [List.take_add_one, List.getElem?_eq_getElem lk]
            rfl
          rw [e5]
          refine Grown.leaf (a := ls[at']) (k := 1 + lg) hG ?_ ?_ ?_ (by omega) (by omega)
          · exact List.mem_take_iff_getElem.mpr ⟨at', by omega, rfl⟩
          · intro hm
            obtain ⟨j, hj, ej⟩ := List.mem_take_iff_getElem.mp hm
            have := (List.getElem_inj nd).mp ej
            omega
          · rcases hab with ⟨z1, z2⟩ | ⟨z1, z2⟩ <;> rw [z1, z2]
            · exact .inl rfl
            · exact .inr rfl
        · unfold NamesAt
          rw [upd_ne ntp]
          exact X12.nm
        · rw [List.map_append]
          exact DtAll.app (DtAll.keep tk' X12.al) (.cons (.tup (tk'.tup _ _ upd_same) (.cons (.str _) (.cons (.str _) (.cons (.int _) .nil)))) .nil)
      · obtain ⟨x8, x9, x10, tvs, ts, rfl, hG, X0⟩ := hP
        refine ⟨_, _, _, tvs, ts, rfl, ?_, X0.mono (by omega)⟩
        rwa [List.take_of_length_le (by omega)] at hG
    · obtain ⟨x8, x9, x10, tvs, ts, rfl, hG, X0⟩ := hM
      -- left
      refine ⟨_, rfl, p, _, rfl, .inl (SqL.of X0.nm), fun lf nlf => ?_⟩
      have X1 := X0.new (o := .lst ((ls.map S).map V.str)) nlf
      have lfd := X0.dk.nd nlf
      have lf0 : H lf = none := X0.sm.free nlf lfd
      have lfp : lf ≠ p := (ne_of_none X0.nm nlf).symm
      have lft : lf ≠ t := (ne_of_none X0.tt nlf).symm
      -- places
      refine ⟨_, rfl, (many : Int), rfl, by omega, by omega, fun D nD => ?_⟩
      have Dd := X1.dk.nd nD
      have D0 : H D = none := X1.sm.free nD Dd
      have Dp' : D ≠ p := (ne_of_none X1.nm nD).symm
      have DNt : D ≠ t := (ne_of_none X1.tt nD).symm
      have Dlf : D ≠ lf := (ne_of_none upd_same nD).symm
      refine lc_range (lo := 0) (n := (many : Int).toNat) (fun i H'' => ∃ l1 l2 : List Nm, l1.length = i ∧ (l1 ++ l2).Perm ls ∧ H'' D = some (.lst ((l1.map S).map V.str)) ∧ H'' lf = some (.lst ((l2.map S).map V.str)) ∧ Tr H H'' d p t (n + 1250 + i) ls tvs ts)
        ⟨[], ls, rfl, List.Perm.refl _, upd_same, by rw [upd_ne Dlf.symm]; exact upd_same, X1.new nD⟩ (fun i H'' hi hP => ?_) (fun H'' hP => ?_)
      · obtain ⟨l1, l2, hl1, pm, hD, hlf, X2⟩ := hP
        have ll := pm.length_eq
        rw [List.length_append] at ll
        refine ⟨rfl, _, rfl, .inl ⟨rfl, _, SqL.of hlf⟩, _, rfl, _, rfl, .ref lf, _, rfl, .inl ⟨_, SqL.of hlf, rfl⟩, d, _, _, rfl, X2.dk, by omega, by rw [List.length_map, List.length_map]; omega, by rw [List.length_map, List.length_map]; omega, fun H3 r r0 r1 S3 D3 => ?_⟩
        have X3 := X2.step npd ntd S3 D3
        have hD3 := S3 D _ Dd hD
        have hlf3 := S3 lf _ lfd hlf
        rw [List.length_map, List.length_map] at r1
        have hx : l2[r.toNat]? = some (l2[r.toNat]'(by omega)) := List.getElem?_eq_getElem (by omega)
        generalize l2[r.toNat]'(by omega) = x at hx
        have hx' : ((l2.map S).map V.str)[r.toNat]? = some (.str (S x)) := by
          rw [List.getElem?_map, List.getElem?_map, hx]
          rfl
        refine ⟨lf, _, r, r.toNat, .str (S x), rfl, rfl, hlf3, by omega, by omega, seq_ix r0 (by rw [List.length_map, List.length_map]; exact r1), hx', ?_⟩
        have X4 := X3.put (o := .lst (((l2.map S).map V.str).eraseIdx r.toNat)) lfp lft lfd lf0 hlf3
        have hD4 : (upd H3 lf (.lst (((l2.map S).map V.str).eraseIdx r.toNat))) D = some (.lst ((l1.map S).map V.str)) := by
          rw [upd_ne Dlf]
          exact hD3
        refine ⟨_, hD4, by rw [List.length_map, List.length_map]; exact sz_lt (by omega), l1 ++ [x], l2.eraseIdx r.toNat, by rw [List.length_append, hl1]; rfl, perm_pick pm hx, ?_, ?_, X4.put Dp' DNt Dd D0 hD4⟩
        · rw [upd_same, List.map_append, List.map_append]
          rfl
        · rw [upd_ne Dlf.symm, upd_same, map_erase, map_erase]
      · obtain ⟨l1, l2, hl1, pm, hD, hlf, X2⟩ := hP
        have ll := pm.length_eq
        rw [List.length_append] at ll
        have e2 : l2 = [] := List.length_eq_zero_iff.mp (by omega)
        subst e2
        rw [List.append_nil] at pm
        have gl := hG.len
        refine .inl ⟨D, _, rfl, SqL.of hD, fun q1 nq1 => ?_⟩
        have X2' := (X2.new (o := .tup ((l1.map S).map V.str)) nq1).mono (m := n + 1280) (by omega)
        have hq1 : (upd H'' q1 (.tup ((l1.map S).map V.str))) q1 = some (.tup ((l1.map S).map V.str)) := upd_same
        generalize upd H'' q1 (.tup ((l1.map S).map V.str)) = H20 at X2' hq1
        have q1d : q1 ≠ d := X2.dk.nd nq1
        -- mixed
        refine ⟨_, rfl, _, rfl, _, _, rfl, rfl, (many : Int) - 1, rfl, by omega, by omega, fun G nG => ?_⟩
        have Gd := X2'.dk.nd nG
        have G0 : H G = none := X2'.sm.free nG Gd
        have Gp : G ≠ p := (ne_of_none X2'.nm nG).symm
        have Gt : G ≠ t := (ne_of_none X2'.tt nG).symm
        have Gq : G ≠ q1 := (ne_of_none hq1 nG).symm
        have tq : t ≠ q1 := ne_of X2'.tt hq1 (by intro z; cases z)
        refine lc_range (lo := 0) (n := ((many : Int) - 1).toNat) (fun i H'' => ∃ (ts1 ts2 : List Tie) (vs1 vs2 : List V), ts1.length = i ∧ (ts1 ++ ts2).Perm ts ∧ H'' q1 = some (.tup ((l1.map S).map V.str)) ∧ H'' G = some (.lst vs1) ∧ DtAll H'' vs1 (ts1.map tieD) ∧ Tr H H'' d p t (n + 1280 + i) ls vs2 ts2)
          ⟨[], ts, [], tvs, rfl, List.Perm.refl _, by rw [upd_ne Gq.symm]; exact hq1, upd_same, .nil, X2'.new nG⟩ (fun i H3 hi hP => ?_) (fun H3 hP => ?_)
        · obtain ⟨ts1, ts2, vs1, vs2, hl1', pm', hD3, hG3, hA3, X3⟩ := hP
          have ll' := pm'.length_eq
          rw [List.length_append] at ll'
          have v2 : vs2.length = ts2.length := by
            have := DtAll.len X3.al
            rwa [List.length_map] at this
          have v1 : vs1.length = ts1.length := by
            have := DtAll.len hA3
            rwa [List.length_map] at this
          refine ⟨rfl, _, rfl, .inl ⟨rfl, _, SqL.of X3.tt⟩, _, rfl, _, rfl, .ref t, _, rfl, .inl ⟨_, SqL.of X3.tt, rfl⟩, d, _, _, rfl, X3.dk, by omega, by omega, by omega, fun H4 r r0 r1 S4 D4 => ?_⟩
          have X4 := X3.step npd ntd S4 D4
          have hD4 := S4 q1 _ q1d hD3
          have hG4 := S4 G _ Gd hG3
          have hA4 := DtAll.keep (X3.dk.tk S4) hA3
          have hy : vs2[r.toNat]? = some (vs2[r.toNat]'(by omega)) := List.getElem?_eq_getElem (by omega)
          generalize vs2[r.toNat]'(by omega) = y at hy
          obtain ⟨dy, hdy, hDy⟩ := DtAll.get X4.al hy
          have hx : ts2[r.toNat]? = some (ts2[r.toNat]'(by omega)) := List.getElem?_eq_getElem (by omega)
          generalize ts2[r.toNat]'(by omega) = x at hx
          have edy : dy = tieD x := by
            rw [List.getElem?_map, hx] at hdy
            exact (Option.some.inj hdy).symm
          subst edy
          refine ⟨t, _, r, r.toNat, y, rfl, rfl, X4.tt, by omega, by omega, seq_ix r0 r1, hy, ?_⟩
          have X5 := X4.take (k := r.toNat) ntp ntd nt0
          have hG5 : (upd H4 t (.lst (vs2.eraseIdx r.toNat))) G = some (.lst vs1) := by
            rw [upd_ne Gt]
            exact hG4
          have hD5 : (upd H4 t (.lst (vs2.eraseIdx r.toNat))) q1 = some (.tup ((l1.map S).map V.str)) := by
            rw [upd_ne tq.symm]
            exact hD4
          have tk' : TK H4 (upd (upd H4 t (.lst (vs2.eraseIdx r.toNat))) G (.lst (vs1 ++ [y]))) := (TK.mut X4.tt).trans (TK.mut hG5)
          refine ⟨_, hG5, sz_lt (by omega), ts1 ++ [x], ts2.eraseIdx r.toNat, vs1 ++ [y], vs2.eraseIdx r.toNat, by rw [List.length_append, hl1']; rfl, perm_pick pm' hx, by rw [upd_ne Gq.symm]; exact hD5, upd_same, ?_, X5.put Gp Gt Gd G0 hG5⟩
          rw [List.map_append]
          exact DtAll.app (DtAll.keep tk' hA4) (.cons (Dt.keep tk' hDy) .nil)
        · obtain ⟨ts1, ts2, vs1, vs2, hl1', pm', hD3, hG3, hA3, X3⟩ := hP
          have ll' := pm'.length_eq
          rw [List.length_append] at ll'
          have e2 : ts2 = [] := List.length_eq_zero_iff.mp (by omega)
          subst e2
          rw [List.append_nil] at pm'
          refine .inl ⟨G, vs1, rfl, SqL.of hG3, fun q2 nq2 => ?_⟩
          have X7 := X3.new (o := .tup vs1) nq2
          refine ⟨(by show 2 ≤ sizeLine; decide), fun q3 nq3 => ?_⟩
          have X8 := X7.new (o := .tup [.ref q1, .ref q2]) nq3
          have tk1 : TK H3 (upd (upd H3 q2 (.tup vs1)) q3 (.tup [.ref q1, .ref q2])) := (TK.new nq2).trans (TK.new nq3)
          have tk2 : TK (upd H3 q2 (.tup vs1)) (upd (upd H3 q2 (.tup vs1)) q3 (.tup [.ref q1, .ref q2])) := TK.new nq3
          have it : IsTree l1 ts1 := ⟨ls, ts, hG, pm, pm'⟩
          exact q _ q3 l1 ts1 it (fun x hx => ok x (pm.mem_iff.mp hx)) (fun x hx => un x (pm.mem_iff.mp hx)) (by rw [pm.length_eq]; omega) (.tup upd_same (.cons (.tup (tk1.tup _ _ hD3) (dt_strs _ l1)) (.cons (.tup (tk2.tup _ _ upd_same) (DtAll.keep tk1 hA3)) .nil))) X8.sm (X8.dk.mono (by omega))
end
end Far

namespace Far
open PySem PySem.Spec PyProof.Rows L2
/-! ### next(zip(a, b)), whatever became of the pair that was given out -/
abbrev ZipAt (h : Heap) (z TI TO : Addr) (f0 f1 : Value) : Prop := h.get? z = some { cls := .type "zip", dict := none, data := .fields #[f0, f1, .bool false, .ref TI, .ref TO], slots := #[] }
inductive ZipOut : Value → Value → Prop
  | free (b : Bool) : ZipOut .none (.bool b)
  | out (T : Nat) (b : Bool) : ZipOut (rawInt T) (.bool b)
section
variable {prog : Program} {w : World} {A : Around} {E : Value → Shared → Prop} {s : Shared} {z TI TO i1 i2 : Addr} {fp1 fp2 : List Addr} {n1 n2 i : Nat} {P1 P2 : Nat → Value → Prop} {St1 St2 : Nat → Heap → Prop} {a1 a2 f0 f1 : Value}
theorem look_alive {a : Addr} {Q : Option Obj → Shared → Prop} (h : Q (s.heap.get? a) s) : wpAny (model prog w) A (loadIfAlive a) Q E s := fun _ _ _ => h
theorem zip_asks {Q : Bool → Shared → Prop} (hz : ZipAt s.heap z TI TO f0 f1) (ok : ZipOut f0 f1)
    (h : ∀ b h' g0 g1, ZipOut g0 g1 → ZipAt h' z TI TO g0 g1 → Heap.SameBut z s.heap h' → Q b { s with heap := h' }) : wpAny (model prog w) A (Builtin.SmallTypes.ownedTupleIsFree (.ref z)) Q E s := by
  have same : Heap.SameBut z s.heap s.heap := Heap.SameBut.refl _ _
  unfold Builtin.SmallTypes.ownedTupleIsFree
  cases ok with
  | free b => exact wpAny_bind (wpAny_field hz rfl (x := .none) rfl (wpAny_pure (h true s.heap _ _ (.free b) hz same)))
  | out T b =>
    refine wpAny_bind (wpAny_field hz rfl (x := rawInt T) rfl ?_)
    show wpAny _ _ (loadIfAlive ((T : Int).toNat) >>= _) _ _ _
    refine wpAny_bind (look_alive ?_)
    rw [Int.toNat_natCast]
    cases e : s.heap.get? T with
    | none =>
      simp only [Option.isNone_none, if_true]
      exact wpAny_pure (h true s.heap _ _ (.out T b) hz same)
    | some o =>
      simp only [Option.isNone_some, Bool.false_eq_true, if_false]
      refine wpAny_bind (wpAny_field hz rfl (x := .bool b) rfl ?_)
      cases b with
      | true =>
        rw [if_neg (show ¬ ((Value.bool true != Value.bool true) = true) from Bool.false_ne_true)]
        exact wpAny_pure (h false s.heap _ _ (.out T true) hz same)
      | false =>
        rw [if_pos (show (Value.bool false != Value.bool true) = true from rfl)]
        exact wpAny_bind (wpAny_setField_rec hz (by simp) fun h1 z1 s1 => wpAny_pure (h false h1 _ _ (.out T true) z1 s1))
/-- a pair is drawn -/
theorem zip_item {Q : Value → Shared → Prop} (S : ZipSep2 z TI TO i1 i2 fp1 fp2) (D1 : Draws prog w A i1 fp1 n1 P1 St1) (D2 : Draws prog w A i2 fp2 n2 P2 St2)
    (hz : ZipAt s.heap z TI TO f0 f1) (ok : ZipOut f0 f1) (hTI : IsTupOf2 s.heap TI (.ref i1) (.ref i2)) (hTO : IsTupOf2 s.heap TO a1 a2) (st1 : St1 i s.heap) (st2 : St2 i s.heap) (lt1 : i < n1) (lt2 : i < n2)
    (hQ : ∀ x1 x2 h' tk g0 g1 b1 b2, P1 i x1 → P2 i x2 → ZipOut g0 g1 → ZipAt h' z TI TO g0 g1 → IsTupOf2 h' TO b1 b2 → St1 (i + 1) h' → St2 (i + 1) h' → IsTupOf2 h' s.heap.objs.size x1 x2 → h'.objs.size = s.heap.objs.size + 1 →
      (∀ c o, c ≠ z → c ≠ TO → c ≠ i1 → c ≠ i2 → s.heap.get? c = some o → h'.get? c = some o) → Q (.ref s.heap.objs.size) { s with heap := h', toks := tk }) :
    wpAny (model prog w) A (Builtin.«zip.__next__» ⟨[.ref z], []⟩) (fun fin s' => ∃ v, fin = .done (.ret v) ∧ Q v s') E s := by
  obtain ⟨hp, gs, dr, tk0, os⟩ := s
  show wpAny _ _ (field (.ref z) 2 >>= _) _ _ _
  refine wpAny_bind (wpAny_field hz rfl (x := .bool false) rfl ?_)
  show wpAny _ _ (field (.ref z) 3 >>= _) _ _ _
  refine wpAny_bind (wpAny_field hz rfl (x := .ref TI) rfl (wpAny_bind (wpAny_seqItems hTI rfl ?_)))
  show wpAny _ _ (Builtin.SmallTypes.ownedTupleIsFree (.ref z) >>= _) _ _ _
  refine wpAny_bind (zip_asks hz ok fun b k0 g0 g1 ok0 z0 e0 => ?_)
  replace e0 : Heap.SameBut z hp k0 := e0
  cases b with
  | true =>
    simp only [if_true]
    refine wpAny_bind (wpAny_rule (wpAny_bind (wpAny_field z0 rfl (x := .ref TO) rfl (wpAny_bind (wpAny_setField_rec z0 (by simp) fun k1 z1 e1 => ?_)))))
    replace z1 : ZipAt k1 z TI TO .ellipsis g1 := z1
    replace e1 : Heap.SameBut z k0 k1 := e1
    have q1 : Heap.ExtBut z hp k1 := fun c o hc x => e1.extBut _ _ hc (e0.extBut _ _ hc x)
    have T1 : IsTupOf2 k1 TO a1 a2 := q1 _ _ S.TOz hTO
    have u1 : St1 i k1 := D1.over (D1.over st1 e0 S.zf1) e1 S.zf1
    have u2 : St2 i k1 := D2.over (D2.over st2 e0 S.zf2) e1 S.zf2
    refine wpAny_bind ?_
    simp only [List.zipIdx_cons, List.zipIdx_nil, List.forIn_cons, List.forIn_nil]
    refine wpAny_bind (wpAny_bind (wpAny_onRaise ?_))
    show wpAny _ _ (Builtin.SmallTypes.nextOf (.ref i1) >>= _) _ _ ⟨k1, gs, dr, tk0, os⟩
    refine wpAny_bind (D1.item i _ _ _ lt1 u1 fun x1 k2 t2 px1 u1' e2 => wpAny_pure ?_)
    replace e2 : Heap.SameBut i1 k1 k2 := e2
    have T2 : IsTupOf2 k2 TO a1 a2 := e2.extBut _ _ S.Ti1 T1
    refine wpAny_bind (wpAny_seqItems (s := ⟨k2, gs, dr, t2, os⟩) T2 rfl (wpAny_bind (updateSeq_IsTupOf2 (s := ⟨k2, gs, dr, t2, os⟩) T2 fun k3 T3 e3 => wpAny_bind (wpAny_letGo (wpAny_pure ?_)))))
    replace T3 : IsTupOf2 k3 TO x1 a2 := T3
    replace e3 : Heap.SameBut TO k2 k3 := e3
    refine wpAny_bind (wpAny_bind (wpAny_onRaise ?_))
    show wpAny _ _ (Builtin.SmallTypes.nextOf (.ref i2) >>= _) _ _ ⟨k3, gs, dr, t2, os⟩
    refine wpAny_bind (D2.item i _ _ _ lt2 (D2.over (D2.over u2 e2 S.sep1_2) e3 S.Tf2) fun x2 k4 t4 px2 u2' e4 => wpAny_pure ?_)
    replace e4 : Heap.SameBut i2 k3 k4 := e4
    have T4 : IsTupOf2 k4 TO x1 a2 := e4.extBut _ _ S.Ti2 T3
    refine wpAny_bind (wpAny_seqItems (s := ⟨k4, gs, dr, t4, os⟩) T4 rfl (wpAny_bind (updateSeq_IsTupOf2 (s := ⟨k4, gs, dr, t4, os⟩) T4 fun k5 T5 e5 => wpAny_bind (wpAny_letGo (wpAny_pure (wpAny_pure ?_))))))
    replace T5 : IsTupOf2 k5 TO x1 x2 := T5
    replace e5 : Heap.SameBut TO k4 k5 := e5
    refine wpAny_bind (wpAny_seqItems (s := ⟨k5, gs, dr, t4, os⟩) T5 rfl (wpAny_bind (wpAny_newTuple ?_)))
    have sz : k5.objs.size = hp.objs.size := by rw [e5.1, e4.1, e3.1, e2.1, e1.1, e0.1]
    have z5 : ZipAt k5 z TI TO .ellipsis g1 := e5.extBut _ _ S.TOz.symm (e4.extBut _ _ S.zi2 (e3.extBut _ _ S.TOz.symm (e2.extBut _ _ S.zi1 z1)))
    have q5 : ∀ c o, c ≠ z → c ≠ TO → c ≠ i1 → c ≠ i2 → hp.get? c = some o → k5.get? c = some o := fun c o hz hT h1 h2 x => e5.extBut _ _ hT (e4.extBut _ _ h2 (e3.extBut _ _ hT (e2.extBut _ _ h1 (q1 _ _ hz x))))
    have v1 : St1 (i + 1) k5 := D1.over (D1.over (D1.over u1' e3 S.Tf1) e4 S.sep2_1) e5 S.Tf1
    have v2 : St2 (i + 1) k5 := D2.over u2' e5 S.Tf2
    have zlt : z < k5.objs.size := Heap.lt_size z5
    show wpAny _ _ (Builtin.SmallTypes.ownedTupleHandOut (.ref z) (.ref k5.objs.size) >>= _) _ _ ⟨k5.push { cls := .type "tuple", data := .seq #[x1, x2] }, gs, dr, t4, os⟩
    refine wpAny_bind ?_
    unfold Builtin.SmallTypes.ownedTupleHandOut
    have z6 : ZipAt (k5.push { cls := .type "tuple", data := .seq #[x1, x2] }) z TI TO .ellipsis g1 := Heap.get?_push_of_some _ z5
    refine wpAny_bind (wpAny_setField_rec z6 (by simp) fun k7 z7 e7 => ?_)
    replace z7 : ZipAt k7 z TI TO (rawInt k5.objs.size) g1 := z7
    refine wpAny_setField_rec z7 (by simp) fun k8 z8 e8 => ?_
    replace z8 : ZipAt k8 z TI TO (rawInt k5.objs.size) (.bool false) := z8
    replace e7 : Heap.SameBut z (k5.push { cls := .type "tuple", data := .seq #[x1, x2] }) k7 := e7
    replace e8 : Heap.SameBut z k7 k8 := e8
    have up : ∀ c o, c ≠ z → k5.get? c = some o → k8.get? c = some o := fun c o hc x => e8.extBut _ _ hc (e7.extBut _ _ hc (Heap.get?_push_of_some _ x))
    have T8 : IsTupOf2 k8 k5.objs.size x1 x2 := e8.extBut _ _ (Nat.ne_of_gt zlt) (e7.extBut _ _ (Nat.ne_of_gt zlt) (Heap.get?_push_size _ rfl))
    have s8 : k8.objs.size = k5.objs.size + 1 := by rw [e8.1, e7.1, Heap.size_push]
    refine wpAny_pure ⟨_, rfl, ?_⟩
    show Q (.ref k5.objs.size) ⟨k8, gs, dr, t4, os⟩
    rw [sz] at T8 s8 z8 ⊢
    exact hQ x1 x2 k8 t4 _ _ _ _ px1 px2 (.out _ false) z8 (up _ _ S.TOz T5) (D1.frame _ _ _ v1 fun c hc o x => up c o (fun q => S.zf1 (q ▸ hc)) x) (D2.frame _ _ _ v2 fun c hc o x => up c o (fun q => S.zf2 (q ▸ hc)) x) T8 s8 fun c o hz hT h1 h2 x => up c o hz (q5 c o hz hT h1 h2 x)
  | false =>
    simp only [Bool.false_eq_true, if_false]
    refine wpAny_bind ?_
    rw [← Array.forIn_toList]
    simp only [List.forIn_cons, List.forIn_nil]
    refine wpAny_bind (wpAny_bind (wpAny_holding ?_))
    show wpAny _ _ (Builtin.SmallTypes.nextOf (.ref i1) >>= _) _ _ ⟨k0, gs, dr, tk0, os⟩
    refine wpAny_bind (D1.item i _ _ _ lt1 (D1.over st1 e0 S.zf1) fun x1 k1 t1 px1 u1 e1 => wpAny_pure (wpAny_pure ?_))
    replace e1 : Heap.SameBut i1 k0 k1 := e1
    refine wpAny_bind (wpAny_bind (wpAny_holding ?_))
    show wpAny _ _ (Builtin.SmallTypes.nextOf (.ref i2) >>= _) _ _ ⟨k1, gs, dr, t1, os⟩
    refine wpAny_bind (D2.item i _ _ _ lt2 (D2.over (D2.over st2 e0 S.zf2) e1 S.sep1_2) fun x2 k2 t2 px2 u2 e2 => wpAny_pure (wpAny_pure (wpAny_pure ?_)))
    replace e2 : Heap.SameBut i2 k1 k2 := e2
    show wpAny _ _ (newTuple [x1, x2] >>= _) _ _ ⟨k2, gs, dr, t2, os⟩
    refine wpAny_bind (wpAny_newTuple ?_)
    have sz : k2.objs.size = hp.objs.size := by rw [e2.1, e1.1, e0.1]
    have z2 : ZipAt k2 z TI TO g0 g1 := e2.extBut _ _ S.zi2 (e1.extBut _ _ S.zi1 z0)
    have q2 : ∀ c o, c ≠ z → c ≠ i1 → c ≠ i2 → hp.get? c = some o → k2.get? c = some o := fun c o hz h1 h2 x => e2.extBut _ _ h2 (e1.extBut _ _ h1 (e0.extBut _ _ hz x))
    have up : ∀ c o, k2.get? c = some o → (k2.push { cls := .type "tuple", data := .seq #[x1, x2] }).get? c = some o := fun c o x => Heap.get?_push_of_some _ x
    have T3 : IsTupOf2 (k2.push { cls := .type "tuple", data := .seq #[x1, x2] }) k2.objs.size x1 x2 := Heap.get?_push_size _ rfl
    have s3 : (k2.push { cls := .type "tuple", data := .seq #[x1, x2] }).objs.size = k2.objs.size + 1 := Heap.size_push ..
    refine wpAny_pure ⟨_, rfl, ?_⟩
    show Q (.ref k2.objs.size) ⟨k2.push { cls := .type "tuple", data := .seq #[x1, x2] }, gs, dr, t2, os⟩
    rw [sz] at T3 s3 ⊢
    exact hQ x1 x2 _ t2 g0 g1 _ _ px1 px2 ok0 (up _ _ z2) (up _ _ (q2 _ _ S.TOz S.Ti1 S.Ti2 hTO)) (D1.frame _ _ _ (D1.over u1 e2 S.sep2_1) fun c _ o x => up c o x) (D2.frame _ _ _ u2 fun c _ o x => up c o x) T3 s3 fun c o hz _ h1 h2 x => up c o (q2 c o hz h1 h2 x)
/-- one of both is at its end -/
theorem zip_end {Q : Fin → Shared → Prop} (S : ZipSep2 z TI TO i1 i2 fp1 fp2) (D1 : Draws prog w A i1 fp1 n1 P1 St1) (D2 : Draws prog w A i2 fp2 n2 P2 St2)
    (hz : ZipAt s.heap z TI TO f0 f1) (ok : ZipOut f0 f1) (hTI : IsTupOf2 s.heap TI (.ref i1) (.ref i2)) (hTO : IsTupOf2 s.heap TO a1 a2) (st1 : St1 i s.heap) (st2 : St2 i s.heap) (le1 : i ≤ n1) (le2 : i ≤ n2) (he : i = n1 ∨ i = n2)
    (hE : ∀ h' tk e, (∀ c o, c ≠ z → c ≠ TO → c ≠ i1 → c ≠ i2 → s.heap.get? c = some o → h'.get? c = some o) → (∃ o, h'.get? e = some o ∧ o.cls = .type "StopIteration") → E (.ref e) { s with heap := h', toks := tk }) :
    wpAny (model prog w) A (Builtin.«zip.__next__» ⟨[.ref z], []⟩) Q E s := by
  obtain ⟨hp, gs, dr, tk0, os⟩ := s
  show wpAny _ _ (field (.ref z) 2 >>= _) _ _ _
  refine wpAny_bind (wpAny_field hz rfl (x := .bool false) rfl ?_)
  show wpAny _ _ (field (.ref z) 3 >>= _) _ _ _
  refine wpAny_bind (wpAny_field hz rfl (x := .ref TI) rfl (wpAny_bind (wpAny_seqItems hTI rfl ?_)))
  show wpAny _ _ (Builtin.SmallTypes.ownedTupleIsFree (.ref z) >>= _) _ _ _
  refine wpAny_bind (zip_asks hz ok fun b k0 g0 g1 ok0 z0 e0 => ?_)
  replace e0 : Heap.SameBut z hp k0 := e0
  cases b with
  | true =>
    simp only [if_true]
    refine wpAny_bind (wpAny_rule (wpAny_bind (wpAny_field z0 rfl (x := .ref TO) rfl (wpAny_bind (wpAny_setField_rec z0 (by simp) fun k1 z1 e1 => ?_)))))
    replace z1 : ZipAt k1 z TI TO .ellipsis g1 := z1
    replace e1 : Heap.SameBut z k0 k1 := e1
    have q1 : Heap.ExtBut z hp k1 := fun c o hc x => e1.extBut _ _ hc (e0.extBut _ _ hc x)
    have u1 : St1 i k1 := D1.over (D1.over st1 e0 S.zf1) e1 S.zf1
    have u2 : St2 i k1 := D2.over (D2.over st2 e0 S.zf2) e1 S.zf2
    have T1 : IsTupOf2 k1 TO a1 a2 := q1 _ _ S.TOz hTO
    have fin : ∀ (k : Heap) (t : Nat) (e : Addr) (z9 : ZipAt k z TI TO .ellipsis g1) (q9 : ∀ c o, c ≠ z → c ≠ TO → c ≠ i1 → c ≠ i2 → hp.get? c = some o → k.get? c = some o) (he : ∃ o, k.get? e = some o ∧ o.cls = .type "StopIteration"),
        wpAny (model prog w) A (setField (.ref z) 0 .none) (fun _ s' => E (.ref e) s') E ⟨k, gs, dr, t, os⟩ := fun k t e z9 q9 ⟨o, ho, hc⟩ => by
      have ez : e ≠ z := fun x => by
        subst x
        rw [z9] at ho
        cases ho
        simp at hc
      refine wpAny_setField_rec (s := ⟨k, gs, dr, t, os⟩) z9 (by simp) fun k' _ e' => ?_
      replace e' : Heap.SameBut z k k' := e'
      exact hE k' t e (fun c o hz hT h1 h2 x => e'.extBut _ _ hz (q9 c o hz hT h1 h2 x)) ⟨o, e'.extBut _ _ ez ho, hc⟩
    refine wpAny_bind ?_
    simp only [List.zipIdx_cons, List.zipIdx_nil, List.forIn_cons, List.forIn_nil]
    refine wpAny_bind (wpAny_bind (wpAny_onRaise ?_))
    show wpAny _ _ (Builtin.SmallTypes.nextOf (.ref i1) >>= _) _ _ ⟨k1, gs, dr, tk0, os⟩
    by_cases lt1 : i < n1
    · refine wpAny_bind (D1.item i _ _ _ lt1 u1 fun x1 k2 t2 px1 u1' e2 => wpAny_pure ?_)
      replace e2 : Heap.SameBut i1 k1 k2 := e2
      have T2 : IsTupOf2 k2 TO a1 a2 := e2.extBut _ _ S.Ti1 T1
      refine wpAny_bind (wpAny_seqItems (s := ⟨k2, gs, dr, t2, os⟩) T2 rfl (wpAny_bind (updateSeq_IsTupOf2 (s := ⟨k2, gs, dr, t2, os⟩) T2 fun k3 T3 e3 => wpAny_bind (wpAny_letGo (wpAny_pure ?_)))))
      replace e3 : Heap.SameBut TO k2 k3 := e3
      have i2e : i = n2 := by omega
      refine wpAny_bind (wpAny_bind (wpAny_onRaise ?_))
      show wpAny _ _ (Builtin.SmallTypes.nextOf (.ref i2) >>= _) _ _ ⟨k3, gs, dr, t2, os⟩
      refine wpAny_bind (D2.done ⟨k3, gs, dr, t2, os⟩ _ _ (by rw [← i2e]; exact D2.over (D2.over u2 e2 S.sep1_2) e3 S.Tf2) fun k4 e x4 ho => ?_)
      replace x4 : Heap.ExtBut i2 k3 k4 := x4
      exact fin k4 t2 e (x4 _ _ S.zi2 (e3.extBut _ _ S.TOz.symm (e2.extBut _ _ S.zi1 z1))) (fun c o hz hT h1 h2 x => x4 _ _ h2 (e3.extBut _ _ hT (e2.extBut _ _ h1 (q1 _ _ hz x)))) ho
    · have i1e : i = n1 := by omega
      refine wpAny_bind (D1.done ⟨k1, gs, dr, tk0, os⟩ _ _ (by rw [← i1e]; exact u1) fun k2 e x2 ho => ?_)
      replace x2 : Heap.ExtBut i1 k1 k2 := x2
      exact fin k2 tk0 e (x2 _ _ S.zi1 z1) (fun c o hz hT h1 h2 x => x2 _ _ h1 (q1 _ _ hz x)) ho
  | false =>
    simp only [Bool.false_eq_true, if_false]
    refine wpAny_bind ?_
    rw [← Array.forIn_toList]
    simp only [List.forIn_cons, List.forIn_nil]
    refine wpAny_bind (wpAny_bind (wpAny_holding ?_))
    show wpAny _ _ (Builtin.SmallTypes.nextOf (.ref i1) >>= _) _ _ ⟨k0, gs, dr, tk0, os⟩
    by_cases lt1 : i < n1
    · refine wpAny_bind (D1.item i _ _ _ lt1 (D1.over st1 e0 S.zf1) fun x1 k1 t1 px1 u1 e1 => wpAny_pure (wpAny_pure ?_))
      replace e1 : Heap.SameBut i1 k0 k1 := e1
      have i2e : i = n2 := by omega
      refine wpAny_bind (wpAny_bind (wpAny_holding ?_))
      show wpAny _ _ (Builtin.SmallTypes.nextOf (.ref i2) >>= _) _ _ ⟨k1, gs, dr, t1, os⟩
      refine wpAny_bind (D2.done ⟨k1, gs, dr, t1, os⟩ _ _ (by rw [← i2e]; exact D2.over (D2.over st2 e0 S.zf2) e1 S.sep1_2) fun k2 e x2 ho => ?_)
      replace x2 : Heap.ExtBut i2 k1 k2 := x2
      exact hE k2 t1 e (fun c o hz hT h1 h2 x => x2 _ _ h2 (e1.extBut _ _ h1 (e0.extBut _ _ hz x))) ho
    · have i1e : i = n1 := by omega
      refine wpAny_bind (D1.done ⟨k0, gs, dr, tk0, os⟩ _ _ (by rw [← i1e]; exact D1.over st1 e0 S.zf1) fun k1 e x1 ho => ?_)
      replace x1 : Heap.ExtBut i1 k0 k1 := x1
      exact hE k1 tk0 e (fun c o hz hT h1 h2 x => x1 _ _ h1 (e0.extBut _ _ hz x)) ho
end
end Far

namespace Far
open PySem PySem.Spec PyProof.Rows L2
section
variable {prog : Program} {w : World} {A : Around} {E : Value → Shared → Prop} {s : Shared} {z TI TO i1 i2 : Addr} {fp1 fp2 : List Addr} {n1 n2 i : Nat} {P1 P2 : Nat → Value → Prop} {St1 St2 : Nat → Heap → Prop} {a1 a2 f0 f1 : Value}
theorem next_zip {Q : Option Value → Shared → Prop} (S : ZipSep2 z TI TO i1 i2 fp1 fp2) (D1 : Draws prog w A.in1 i1 fp1 n1 P1 St1) (D2 : Draws prog w A.in1 i2 fp2 n2 P2 St2)
    (hz : ZipAt s.heap z TI TO f0 f1) (ok : ZipOut f0 f1) (hTI : IsTupOf2 s.heap TI (.ref i1) (.ref i2)) (hTO : IsTupOf2 s.heap TO a1 a2) (st1 : St1 i s.heap) (st2 : St2 i s.heap) (lt1 : i < n1) (lt2 : i < n2)
    (hQ : ∀ x1 x2 h' tk g0 g1 b1 b2, P1 i x1 → P2 i x2 → ZipOut g0 g1 → ZipAt h' z TI TO g0 g1 → IsTupOf2 h' TO b1 b2 → St1 (i + 1) h' → St2 (i + 1) h' → IsTupOf2 h' s.heap.objs.size x1 x2 → h'.objs.size = s.heap.objs.size + 1 →
      (∀ c o, c ≠ z → c ≠ TO → c ≠ i1 → c ≠ i2 → s.heap.get? c = some o → h'.get? c = some o) → Q (some (.ref s.heap.objs.size)) { s with heap := h', toks := tk }) :
    wpAny (model prog w) A (pyNext (.ref z)) Q E s := by
  have ty : s.TypeIs (.ref z) "zip" := ⟨_, hz, rfl⟩
  unfold pyNext
  exact wpAny_bind (wpAny_attempt (wpAny_callSpecial?_slot (name := Str.ofString "__next__") ty F.slot_zip_next
    (wpAny_call_entry F.slot_zip_next ty F.entry_zip_next (zip_item S D1 D2 hz ok hTI hTO st1 st2 lt1 lt2 fun x1 x2 h' tk g0 g1 b1 b2 c1 c2 c3 c4 c5 c6 c7 c8 c9 c10 => wpAny_pure (hQ x1 x2 h' tk g0 g1 b1 b2 c1 c2 c3 c4 c5 c6 c7 c8 c9 c10)) (F.args_zip_next_1 _))))
theorem next_zip_end {Q : Option Value → Shared → Prop} (S : ZipSep2 z TI TO i1 i2 fp1 fp2) (D1 : Draws prog w A.in1 i1 fp1 n1 P1 St1) (D2 : Draws prog w A.in1 i2 fp2 n2 P2 St2)
    (hz : ZipAt s.heap z TI TO f0 f1) (ok : ZipOut f0 f1) (hTI : IsTupOf2 s.heap TI (.ref i1) (.ref i2)) (hTO : IsTupOf2 s.heap TO a1 a2) (st1 : St1 i s.heap) (st2 : St2 i s.heap) (le1 : i ≤ n1) (le2 : i ≤ n2) (he : i = n1 ∨ i = n2)
    (hQ : ∀ h' tk, (∀ c o, c ≠ z → c ≠ TO → c ≠ i1 → c ≠ i2 → s.heap.get? c = some o → h'.get? c = some o) → Q none { s with heap := h', toks := tk }) : wpAny (model prog w) A (pyNext (.ref z)) Q E s := by
  have ty : s.TypeIs (.ref z) "zip" := ⟨_, hz, rfl⟩
  unfold pyNext
  refine wpAny_bind (wpAny_attempt (wpAny_callSpecial?_slot (name := Str.ofString "__next__") ty F.slot_zip_next
    (wpAny_call_entry F.slot_zip_next ty F.entry_zip_next (zip_end S D1 D2 hz ok hTI hTO st1 st2 le1 le2 he fun h' tk e hk ⟨o, ho, hc⟩ => ?_) (F.args_zip_next_1 _))))
  exact wpAny_bind (wpAny_isInstance (T := "StopIteration") (b := true) ⟨o, ho, hc⟩ isSubtype_stop (wpAny_pure (hQ _ _ hk)))
theorem iter_zip {Q : Value → Shared → Prop} (hz : ZipAt s.heap z TI TO f0 f1) (h : Q (.ref z) s) : wpAny (model prog w) A (pyIter (.ref z)) Q E s := by
  have ty : s.TypeIs (.ref z) "zip" := ⟨_, hz, rfl⟩
  refine wpAny_pyIter_slot ty F.slot_zip_iter (wpAny_call_entry F.slot_zip_iter ty F.entry_zip_iter ?_ (F.args_zip_iter_1 _))
  unfold Builtin.«dict_keyiterator.__iter__»
  exact wpAny_bind (wpAny_pure (wpAny_pure ⟨_, rfl, "zip", _, ty, F.slot_zip_next.lookup, h⟩))
end
/-- the pairs of two tuples, while both go on -/
def ItzN (K : PySem.W.Frag) (a b : Addr) : It :=
  ⟨fun i H => ∃ (xs ys : List V) (x y : V), SqT K H a xs ∧ SqT K H b ys ∧ xs[i]? = some x ∧ ys[i]? = some y,
   fun i H v H' => ∃ T x y, v = .ref T ∧ H T = none ∧ H' = upd H T (.tup [x, y]) ∧ (∀ xs, SqT K H a xs → xs[i]? = some x) ∧ ∀ ys, SqT K H b ys → ys[i]? = some y,
   fun i H => ∃ xs ys : List V, SqT K H a xs ∧ SqT K H b ys ∧ i ≤ xs.length ∧ i ≤ ys.length ∧ (i = xs.length ∨ i = ys.length)⟩
/-- the state of a zip of the tuples at a, b -/
def ZipSt (z TI TO i1 i2 a b : Addr) (i : Nat) (h : Heap) : Prop :=
  (∃ f0 f1, ZipOut f0 f1 ∧ ZipAt h z TI TO f0 f1) ∧ IsTupOf2 h TI (.ref i1) (.ref i2) ∧ (∃ x y, IsTupOf2 h TO x y) ∧ h.IsTupleIter i1 a i ∧ h.IsTupleIter i2 b i
theorem ZipSt.keep {z TI TO i1 i2 a b : Addr} {i : Nat} {h h' : Heap} (st : ZipSt z TI TO i1 i2 a b i h) (k : ∀ c ∈ [z, TI, TO, i1, i2], ∀ o, h.get? c = some o → h'.get? c = some o) : ZipSt z TI TO i1 i2 a b i h' := by
  obtain ⟨⟨f0, f1, ok, hz⟩, hTI, ⟨x, y, hTO⟩, h1, h2⟩ := st
  exact ⟨⟨f0, f1, ok, k z (by simp) _ hz⟩, k TI (by simp) _ hTI, ⟨x, y, k TO (by simp) _ hTO⟩, h1.at fun o q => k i1 (by simp) o q, h2.at fun o q => k i2 (by simp) o q⟩
structure ZipAp (z TI TO i1 i2 a b : Addr) : Prop where
  sep : ZipSep2 z TI TO i1 i2 [i1, a] [i2, b]
  a1 : a ≠ i1
  b2 : b ≠ i2
theorem zip_ap {N a b : Nat} (ha : a < N) (hb : b < N) : ZipAp (N + 4) (N + 2) (N + 3) N (N + 1) a b :=
  ⟨zip_sep2 (fp1 := [a]) (fp2 := [b]) (fun c hc => by rw [List.mem_singleton.mp hc]; exact ha) (fun c hc => by rw [List.mem_singleton.mp hc]; exact hb), Nat.ne_of_lt ha, Nat.ne_of_lt (Nat.lt_succ_of_lt hb)⟩
section
variable {X : Cx} {pins : List (Addr × Obj)} {σ : L2.St} {H : Hp} {s : Shared} {z TI TO i1 i2 a b : Addr} {i : Nat} {A : Around} {E : Value → Shared → Prop} {xs ys : List V}
/-- a turn, the pair tracked -/
theorem zip_turn (hh : A.handled = none) (D : ZipAp z TI TO i1 i2 a b) (I : Inv X pins σ H s) (hf : ∀ c ∈ [z, TI, TO, i1, i2], FpOk X pins H c) (st : ZipSt z TI TO i1 i2 a b i s.heap) (hx : SqT X.K H a xs) (hy : SqT X.K H b ys) {x y : V} (ex : xs[i]? = some x) (ey : ys[i]? = some y)
    {Q : Option Value → Shared → Prop} (q : ∀ T s', H T = none → Inv X pins σ (upd H T (.tup [x, y])) s' → ZipSt z TI TO i1 i2 a b (i + 1) s'.heap → (∀ c ∈ [z, TI, TO, i1, i2], (upd H T (.tup [x, y])) c = none) → (∀ c o, c ∉ [z, TI, TO, i1, i2] → s.heap.get? c = some o → s'.heap.get? c = some o) → T = s.heap.objs.size → Q (some (.ref T)) s') :
    wpAny (model X.prog X.w) A (pyNext (.ref z)) Q E s := by
  obtain ⟨⟨f0, f1, ok, hz⟩, hTI, ⟨x0, y0, hTO⟩, h1, h2⟩ := st
  obtain ⟨its, rv, p, _⟩ := I.tuple hx
  obtain ⟨its2, rv2, p2, _⟩ := I.tuple hy
  obtain ⟨u, hu, ru⟩ := rv.get ex
  obtain ⟨u2, hu2, ru2⟩ := rv2.get ey
  have zl : z < s.heap.objs.size := Heap.lt_size hz
  have l1 : i < its.toArray.size := by
    have := (List.getElem?_eq_some_iff.mp hu).1
    simpa using this
  have l2 : i < its2.toArray.size := by
    have := (List.getElem?_eq_some_iff.mp hu2).1
    simpa using this
  refine next_zip D.sep (Draws.tuple (A := A.in1) hh i1 a D.a1 its.toArray) (Draws.tuple (A := A.in1) hh i2 b D.b2 its2.toArray) hz ok hTI hTO ⟨h1, show s.heap.IsTuple a its.toArray from p⟩ ⟨h2, show s.heap.IsTuple b its2.toArray from p2⟩ l1 l2 fun v1 v2 h' tk g0 g1 b1 b2 e1 e2 ok' hz' hTO' t1 t2 hT sz k => ?_
  have ev1 : v1 = u := by
    have : its.toArray[i]? = some u := by simpa using hu
    exact Option.some.inj (e1.symm.trans this)
  have ev2 : v2 = u2 := by
    have : its2.toArray[i]? = some u2 := by simpa using hu2
    exact Option.some.inj (e2.symm.trans this)
  subst ev1 ev2
  have new : ObjOk X.prog X.w (upd H s.heap.objs.size (.tup [x, y])) h' s.heap.objs.size (.tup [x, y]) := ⟨by show 2 ≤ sizeLine; decide, [v1, v2], .cons ru (.cons ru2 .nil), ⟨_, hT, rfl, _, rfl⟩⟩
  have kk : ∀ c o, c ∉ [z, TI, TO, i1, i2] → s.heap.get? c = some o → h'.get? c = some o := fun c o hc e => k c o (fun q => hc (by simp [q])) (fun q => hc (by simp [q])) (fun q => hc (by simp [q])) (fun q => hc (by simp [q])) e
  have I1 : Inv X pins σ (upd H s.heap.objs.size (.tup [x, y])) { s with heap := h', toks := tk } := I.turnedNew (t' := tk) (ch := [z, TI, TO, i1, i2]) kk hf (Nat.le_refl _) new
  have lt : ∀ c ∈ [z, TI, TO, i1, i2], c < s.heap.objs.size := fun c hc => by
    have e' : c = z ∨ c = TI ∨ c = TO ∨ c = i1 ∨ c = i2 := by simpa using hc
    rcases e' with q | q | q | q | q
    · rw [q]; exact zl
    · rw [q]; exact Heap.lt_size hTI
    · rw [q]; exact Heap.lt_size hTO
    · rw [q]; obtain ⟨_, e1, _⟩ := h1; exact Heap.lt_size e1
    · rw [q]; obtain ⟨_, e1, _⟩ := h2; exact Heap.lt_size e1
  exact q _ _ (I.hok.fresh (Nat.le_refl _)) I1 ⟨⟨g0, g1, ok', hz'⟩, k _ _ D.sep.TIz D.sep.TITO D.sep.TIi1 D.sep.TIi2 hTI, ⟨b1, b2, hTO'⟩, t1.1, t2.1⟩
    (fun c hc => by rw [upd_ne (Nat.ne_of_lt (lt c hc))]; exact (hf c hc).1) kk rfl
theorem zip_over (hh : A.handled = none) (D : ZipAp z TI TO i1 i2 a b) (I : Inv X pins σ H s) (hf : ∀ c ∈ [z, TI, TO, i1, i2], FpOk X pins H c) (st : ZipSt z TI TO i1 i2 a b i s.heap) (hx : SqT X.K H a xs) (hy : SqT X.K H b ys) (le1 : i ≤ xs.length) (le2 : i ≤ ys.length) (he : i = xs.length ∨ i = ys.length)
    {Q : Option Value → Shared → Prop} (q : ∀ s', Inv X pins σ H s' → (∀ c o, c ∉ [z, TI, TO, i1, i2] → s.heap.get? c = some o → s'.heap.get? c = some o) → Q none s') :
    wpAny (model X.prog X.w) A (pyNext (.ref z)) Q E s := by
  obtain ⟨⟨f0, f1, ok, hz⟩, hTI, ⟨x0, y0, hTO⟩, h1, h2⟩ := st
  obtain ⟨its, rv, p, _⟩ := I.tuple hx
  obtain ⟨its2, rv2, p2, _⟩ := I.tuple hy
  have l1 := rv.length
  have l2 := rv2.length
  refine next_zip_end D.sep (Draws.tuple (A := A.in1) hh i1 a D.a1 its.toArray) (Draws.tuple (A := A.in1) hh i2 b D.b2 its2.toArray) hz ok hTI hTO ⟨h1, show s.heap.IsTuple a its.toArray from p⟩ ⟨h2, show s.heap.IsTuple b its2.toArray from p2⟩ (by simp; omega) (by simp; omega) (by simp; omega) fun h' tk k => ?_
  have kk : ∀ c o, c ∉ [z, TI, TO, i1, i2] → s.heap.get? c = some o → h'.get? c = some o := fun c o hc e => k c o (fun q => hc (by simp [q])) (fun q => hc (by simp [q])) (fun q => hc (by simp [q])) (fun q => hc (by simp [q])) e
  exact q _ (I.turnedL (t' := tk) (ch := [z, TI, TO, i1, i2]) kk hf) kk
end
theorem turn_zipN {P : Program} {w : World} {K : PySem.W.Frag} {tg : Expr} {a b z TI TO i1 i2 : Addr} (D : ZipAp z TI TO i1 i2 a b) (ht : ∀ it v, letOwnedTupleGo tg it v = pure ()) :
    Turn P w K tg (ItzN K a b) [z, TI, TO, i1, i2] z (ZipSt z TI TO i1 i2 a b) where
  mem := by simp
  obj := fun i h st c hc => by
    obtain ⟨⟨f0, f1, ok, hz⟩, hTI, ⟨x, y, hTO⟩, ⟨o1, e1, _, d1⟩, ⟨o2, e2, _, d2⟩⟩ := st
    have e' : c = z ∨ c = TI ∨ c = TO ∨ c = i1 ∨ c = i2 := by simpa using hc
    rcases e' with q | q | q | q | q
    · rw [q]; exact ⟨_, hz, fun v q => nomatch q⟩
    · rw [q]; exact ⟨_, hTI, fun v q => nomatch q⟩
    · rw [q]; exact ⟨_, hTO, fun v q => nomatch q⟩
    · rw [q]; exact ⟨o1, e1, fun v q => by rw [d1] at q; cases q⟩
    · rw [q]; exact ⟨o2, e2, fun v q => by rw [d2] at q; cases q⟩
  keep := fun i h h' st k => st.keep k
  item := by
    intro X hP hw hK hc i pins s σ H E I hf st hg
    subst hP hw hK
    obtain ⟨xs, ys, x, y, hqx, hqy, hx, hy⟩ := hg
    refine zip_turn (I.ok.hd hc) D I hf st hqx hqy hx hy fun T s' nT I' st' nf _ _ => ⟨_, rfl, ?_⟩
    rw [ht]
    exact wpAny_pure ⟨.ref T, _, I', rfl, ⟨T, x, y, rfl, nT, rfl, fun l hl => by rw [I.tuple_inj hl hqx]; exact hx, fun l hl => by rw [I.tuple_inj hl hqy]; exact hy⟩, st', nf⟩
  done := by
    intro X hP hw hK hc i pins s σ H E I hf st hg
    subst hP hw hK
    obtain ⟨xs, ys, hqx, hqy, le1, le2, he⟩ := hg
    exact zip_over (I.ok.hd hc) D I hf st hqx hqy le1 le2 he fun s' I' _ => ⟨rfl, I'⟩
  self := fun A i s Q E st h => by
    obtain ⟨⟨f0, f1, _, hz⟩, _⟩ := st
    exact iter_zip hz h
/-- for p in zip(a, b), two tuples -/
def iZipN (K : PySem.W.Frag) (ta : TA) : TI := fun σ H R => ta σ H fun vs H1 => ∃ a b xs ys, vs = [.ref a, .ref b] ∧ SqT K H1 a xs ∧ SqT K H1 b ys ∧ R (ItzN K a b) H1
section
variable {X : Cx}
/-- the zip is made -/
theorem zip_made {pins : List (Addr × Obj)} {σ : L2.St} {H : Hp} {s : Shared} {a b : Addr} {xs ys : List V} {Q : Value → Shared → Prop} {A : Around} {E : Value → Shared → Prop} (I : Inv X pins σ H s) (hx : SqT X.K H a xs) (hy : SqT X.K H b ys)
    (q : ∀ z TI TO i1 i2 s', ZipAp z TI TO i1 i2 a b → Inv X pins σ H s' → ZipSt z TI TO i1 i2 a b 0 s'.heap → (∀ c ∈ [z, TI, TO, i1, i2], FpOk X pins H c) → (∀ c o, s.heap.get? c = some o → s'.heap.get? c = some o) → Q (.ref z) s') :
    wpAny (model X.prog X.w) A (call (.type "zip") [.ref a, .ref b]) Q E s := by
  obtain ⟨its, rv, p1, _⟩ := I.tuple hx
  obtain ⟨its2, rv2, p2, _⟩ := I.tuple hy
  have al : a < s.heap.objs.size := by
    obtain ⟨o, m, _⟩ := id p1
    exact Heap.lt_size m
  have bl : b < s.heap.objs.size := by
    obtain ⟨o, m, _⟩ := id p2
    exact Heap.lt_size m
  refine zip_begins2 (begins_tuple a its.toArray) (begins_tuple b its2.toArray) (show s.heap.IsTuple a its.toArray from p1) (show s.heap.IsTuple b its2.toArray from p2) fun h' hz hTI hTO h1 h2 sz k => ?_
  refine q _ _ _ _ _ _ (zip_ap al bl) (I.kept (t' := s.toks) k) ⟨⟨_, _, .free false, hz⟩, hTI, ⟨_, _, hTO⟩, ⟨_, h1, rfl, rfl⟩, ⟨_, h2, rfl, rfl⟩⟩ (fun c hc => ?_) k
  have e' : c = s.heap.objs.size + 4 ∨ c = s.heap.objs.size + 2 ∨ c = s.heap.objs.size + 3 ∨ c = s.heap.objs.size ∨ c = s.heap.objs.size + 1 := by simpa using hc
  have hle : s.heap.objs.size ≤ c := by
    rcases e' with z | z | z | z | z
    · rw [z]; exact Nat.le_add_right _ _
    · rw [z]; exact Nat.le_add_right _ _
    · rw [z]; exact Nat.le_add_right _ _
    · rw [z]; exact Nat.le_refl _
    · rw [z]; exact Nat.le_add_right _ _
  exact I.fpOk hle (I.hok.fresh hle)
theorem pi_zipN {e e2 : Expr} {ta : TA} {p pos : Pos} {x : Str} {pt : Pos} (hg : Gl X "zip") (hm : X.mg "zip" = none) (ha : PA X [e, e2] ta)
    (hs : starEach [e, e2] X.env = (false, eval e X.env) :: starEach [e2] X.env := by rfl) (hpl : (backTo pos (starEach [e2] X.env)).any (·.1) = false := by rfl) :
    PI X (.Name x pt) (.Call (.Name "zip" p) [e, e2] [] pos) (iZipN X.K ta) := by
  refine ⟨fun pins s σ H R I h => ?_⟩
  refine Call_ (ld_blt I hg hm PyProof.Rows.boot_zip (PyProof.Rows.callWith_type1 (thn (ha.run pos pins s σ H _ I h) fun us s1 ⟨vs, H1, I1, r1, q1⟩ => ?_) hs hpl))
  obtain ⟨a, b, xs, ys, ex, hx, hy, q1⟩ := q1
  subst ex
  cases r1 with
  | cons r rr =>
    cases rr with
    | cons r' rr =>
      cases rr
      cases r
      cases r'
      refine zip_made I1 hx hy fun z TI TO i1 i2 s' D I' st hf _ => ?_
      obtain ⟨⟨f0, f1, _, hz⟩, _⟩ := id st
      exact iter_zip hz ⟨z, _, _, _, H1, rfl, I', turn_zipN D fun _ _ => rfl, st, hf, q1⟩
end
/-- a comprehension over the pairs -/
theorem zip_itN {K : PySem.W.Frag} {a b : Addr} {xs ys : List V} {n : Nat} {g : TG} {tt : TT} {te : TE} {vs : List Nat} {σ : L2.St} {H1 : Hp} {D : Addr} {Qd : Hp → Prop} (hn : n ≤ xs.length) (hn2 : n ≤ ys.length) (he : n = xs.length ∨ n = ys.length) (Pv : Nat → Hp → Prop) (h0 : Pv 0 (upd H1 D (.lst []))) (hl : ∀ i H, Pv i H → SqT K H a xs ∧ SqT K H b ys)
    (hs : ∀ i x y H T, xs[i]? = some x → ys[i]? = some y → Pv i H → H T = none → g (.ref T) (wipe σ vs) (upd H T (.tup [x, y])) fun σ2 H2 => wipe σ2 vs = wipe σ vs ∧ tt σ2 H2 fun b H3 =>
      if b = true then te σ2 H3 fun y H4 => ∃ acc, H4 D = some (.lst acc) ∧ acc.length < sizeLine ∧ Pv (i + 1) (upd H4 D (.lst (acc ++ [y]))) else Pv (i + 1) H3) (hd : ∀ H, Pv n H → Qd H) :
    ∃ W : Nat → Nat → Hp → Prop, (∃ m, W 0 m (upd H1 D (.lst []))) ∧ ∀ i m H, W i m H →
      ((ItzN K a b).stop i H ∧ Qd H) ∨ ((ItzN K a b).go i H ∧ ∃ Nx : Hp → Prop, (∀ H', Nx H' → ∃ m', m' < m ∧ W (i + 1) m' H') ∧ ∀ v H', (ItzN K a b).yld i H v H' → g v (wipe σ vs) H' fun σ2 H2 => wipe σ2 vs = wipe σ vs ∧ tt σ2 H2 fun b H3 =>
        if b = true then te σ2 H3 fun y H4 => ∃ acc, H4 D = some (.lst acc) ∧ acc.length < sizeLine ∧ Nx (upd H4 D (.lst (acc ++ [y]))) else Nx H3) := by
  refine ⟨fun i m H => m = n - i ∧ i ≤ n ∧ Pv i H, ⟨n, by simp, Nat.zero_le _, h0⟩, fun i m H ⟨em, hi, p⟩ => ?_⟩
  obtain ⟨q1, q2⟩ := hl i H p
  by_cases lt : i < n
  · refine .inr ⟨⟨xs, ys, xs[i]'(by omega), ys[i]'(by omega), q1, q2, by simp, by simp⟩, Pv (i + 1), fun H' p' => ⟨n - (i + 1), by omega, rfl, lt, p'⟩, fun v H' ⟨T, x, y, ev, nT, eH, hx, hy⟩ => ?_⟩
    rw [ev, eH]
    exact hs i x y H T (hx xs q1) (hy ys q2) p nT
  · have e : i = n := by omega
    rw [e] at p ⊢
    exact .inl ⟨⟨xs, ys, q1, q2, hn, hn2, he⟩, hd H p⟩
end Far

namespace Far
open PySem PySem.Spec PyProof.Rows L2
theorem zip_no_len : typeLookup (.type "zip") "__len__" = pure none := am_miss_of_fast (by decide +kernel)
theorem zip_no_hint : typeLookup (.type "zip") "__length_hint__" = pure none := am_miss_of_fast (by decide +kernel)
/-- the tuples at ps are the pairs of xs and ys -/
def PairsAt (H : Hp) (ps : List Addr) (xs ys : List V) : Prop := ∀ (i : Nat) (p : Addr), ps[i]? = some p → ∃ x y, xs[i]? = some x ∧ ys[i]? = some y ∧ H p = some (.tup [x, y])
theorem PairsAt.keep {H H' : Hp} {ps : List Addr} {xs ys : List V} (h : PairsAt H ps xs ys) (k : ∀ p zs, H p = some (.tup zs) → H' p = some (.tup zs)) : PairsAt H' ps xs ys := fun i p e => by
  obtain ⟨x, y, a, b, c⟩ := h i p e
  exact ⟨x, y, a, b, k p _ c⟩
theorem same_seqT {K : PySem.W.Frag} {H H' : Hp} {a : Addr} {xs : List V} (S : Same H H') (h : SqT K H a xs) : SqT K H' a xs := by
  rcases h with (h | ⟨o, h⟩) | h
  · exact .inl (.inl (S _ _ h))
  · exact .inl (.inr ⟨o, S _ _ h⟩)
  · exact .inr h
section
variable {X : Cx} {pins : List (Addr × Obj)} {σ : L2.St} {H0 H : Hp} {s : Shared} {z TI TO i1 i2 a b q : Addr} {A : Around} {E : Value → Shared → Prop} {xs ys : List V} {n : Nat} {R : Result → Shared → Prop}
theorem hint_zip {f0 f1 : Value} (hz : ZipAt s.heap z TI TO f0 f1) {Q : Bool → Shared → Prop} (h : Q true s) : wpAny (model X.prog X.w) A (Builtin.List.listLengthHint (.ref z)) Q E s := by
  have ty : s.TypeIs (.ref z) "zip" := ⟨_, hz, rfl⟩
  unfold Builtin.List.listLengthHint
  refine wpAny_bind (wpAny_specialOf ty zip_no_len ?_)
  refine PySem.W.KFB.if_not rfl ?_
  refine PySem.W.KFB.if_not rfl ?_
  refine wpAny_bind (wpAny_specialOf ty zip_no_hint ?_)
  exact wpAny_pure h
/-- the list at q filled with the pairs -/
theorem fill_zip (hh : A.handled = none) (D : ZipAp z TI TO i1 i2 a b) (hn : n ≤ xs.length) (hn2 : n ≤ ys.length) (he : n = xs.length ∨ n = ys.length) (hz : n < sizeLine) (qf : q ∉ [z, TI, TO, i1, i2]) (qn : H0 q = none)
    (hx : SqT X.K H0 a xs) (hy : SqT X.K H0 b ys)
    (hR : ∀ H' s' ps, Inv X pins σ H' s' → Same H0 H' → H' q = some (.lst (ps.map V.ref)) → ps.length = n → PairsAt H' ps xs ys → R (.ok (.ret .none)) s') :
    ∀ (k i : Nat) (ps : List Addr) (H : Hp) (s : Shared), n - i = k → i ≤ n → Inv X pins σ H s → (∀ c ∈ [z, TI, TO, i1, i2], FpOk X pins H c) → ZipSt z TI TO i1 i2 a b i s.heap → Same H0 H → H q = some (.lst (ps.map V.ref)) → ps.length = i → PairsAt H ps xs ys →
      codeAny (model X.prog X.w) A (.builtin "list.extend.loop" ⟨[.ref q, .ref z, .none], []⟩) R s := by
  intro k
  induction k with
  | zero =>
    intro i ps H s ek hi I hf st S hq hl hp
    have ei : i = n := by omega
    refine codeAny_builtin PySem.F.entry_extend_loop ?_
    rw [Around.under_plainId PySem.F.plain_extend_loop _]
    show wpAny _ A.in1 (pyNext (.ref z) >>= _) _ _ s
    refine wpAny_bind (zip_over (A := A.in1) hh D I hf st (same_seqT S hx) (same_seqT S hy) (by omega) (by omega) (by omega) fun s' I' _ => ?_)
    exact wpAny_pure (hR H s' ps I' S hq (by omega) hp)
  | succ k ih =>
    intro i ps H s ek hi I hf st S hq hl hp
    have lt : i < n := by omega
    refine codeAny_builtin PySem.F.entry_extend_loop ?_
    rw [Around.under_plainId PySem.F.plain_extend_loop _]
    show wpAny _ A.in1 (pyNext (.ref z) >>= _) _ _ s
    refine wpAny_bind (zip_turn (A := A.in1) hh D I hf st (same_seqT S hx) (same_seqT S hy) (x := xs[i]'(by omega)) (y := ys[i]'(by omega)) (by simp) (by simp) fun T s' nT I' st' nf kk eT => ?_)
    show wpAny _ A.in1 (updateSeq q (·.push (.ref T)) >>= _) _ _ _
    have qT : q ≠ T := ne_of_none hq nT
    have hq' : (upd H T (.tup [xs[i]'(by omega), ys[i]'(by omega)])) q = some (.lst (ps.map V.ref)) := by
      rw [upd_ne qT]
      exact hq
    obtain ⟨sz, its, m, rv, hlen, e⟩ := I'.lstM hq'
    rw [List.length_map] at hlen
    refine wpAny_bind (wpAny_updateSeq e rfl (wpAny_pure ⟨plainId_quiet PySem.F.plain_extend_loop _, ?_⟩) (by rw [List.size_toArray]; omega) (by show (its.toArray.push (Value.ref T)).size ≤ sizeLine + 1; rw [Array.size_push, List.size_toArray]; omega))
    have I2 := I'.lset (its' := its ++ [.ref T]) (ys := (ps ++ [T]).map V.ref) (f := (·.push (Value.ref T))) (t' := s'.toks) hq' e (by simp) (by rw [List.map_append]; exact rv.append (.cons rfl .nil)) (by rw [List.length_map, List.length_append, List.length_singleton]; omega)
    refine ih (i + 1) (ps ++ [T]) _ _ (by omega) (by omega) I2 (fun c hc => ?_) (st'.keep fun c hc o w => ?_) ?_ upd_same (by rw [List.length_append, List.length_singleton]; omega) ?_
    · have cq : c ≠ q := fun w => qf (w ▸ hc)
      exact ⟨by rw [upd_ne cq]; exact nf c hc, (hf c hc).2⟩
    · have cq : c ≠ q := fun w => qf (w ▸ hc)
      exact (Heap.get?_update_other _ _ (Ne.symm cq)).trans w
    · intro c o w
      have cq : c ≠ q := fun e => by rw [e, qn] at w; cases w
      rw [upd_ne cq, upd_ne (ne_of_none (S c o w) nT)]
      exact S c o w
    · intro j p ej
      have tq : T ≠ q := Ne.symm qT
      by_cases hj : j < ps.length
      · rw [List.getElem?_append_left hj] at ej
        obtain ⟨x, y, f1, f2, f3⟩ := hp j p ej
        refine ⟨x, y, f1, f2, ?_⟩
        rw [upd_ne (ne_of f3 hq (fun z => nomatch z)), upd_ne (ne_of_none f3 nT)]
        exact f3
      · rw [List.getElem?_append_right (by omega)] at ej
        have ej0 : j = i := by
          have := (List.getElem?_eq_some_iff.mp ej).1
          simp at this
          omega
        subst ej0
        rw [hl] at ej
        simp at ej
        subst ej
        exact ⟨xs[j]'(by omega), ys[j]'(by omega), by simp, by simp, by rw [upd_ne tq]; exact upd_same⟩
/-- list(zip(a, b)), two tuples -/
theorem list_zip {Q : Value → Shared → Prop} {A : Around} (hh : A.handled = none) (D : ZipAp z TI TO i1 i2 a b) (hn : n ≤ xs.length) (hn2 : n ≤ ys.length) (he : n = xs.length ∨ n = ys.length) (hz : n < sizeLine)
    (I : Inv X pins σ H s) (hf : ∀ c ∈ [z, TI, TO, i1, i2], FpOk X pins H c) (st : ZipSt z TI TO i1 i2 a b 0 s.heap) (hx : SqT X.K H a xs) (hy : SqT X.K H b ys)
    (q : ∀ q H' s' ps, H q = none → Inv X pins σ H' s' → Same H H' → H' q = some (.lst (ps.map V.ref)) → ps.length = n → PairsAt H' ps xs ys → Q (.ref q) s') : wpAny (model X.prog X.w) A (call (.type "list") [.ref z]) Q E s := by
  refine callType_codes (Q₁ := fun obj s₁ => obj = .ref s.heap.objs.size ∧ s₁ = { s with heap := s.heap.push { cls := .type "list", data := .seq #[] } }) PySem.F.called_list (PySem.F.typeCall_list_1 _) PySem.F.entry_list_init
    (code_list_new _ ⟨rfl, rfl⟩) fun obj s₁ h₁ => ?_
  obtain ⟨rfl, rfl⟩ := h₁
  have hS : (s.heap.push { cls := .type "list", data := .seq #[] }).get? s.heap.objs.size = some { cls := .type "list", data := .seq #[] } := Heap.get?_push_size _ rfl
  refine ⟨⟨_, hS, rfl⟩, PySem.F.args_list_init_2 _ _, ?_⟩
  have fr : H s.heap.objs.size = none := I.hok.fresh (Nat.le_refl _)
  have lt : ∀ c ∈ [z, TI, TO, i1, i2], c < s.heap.objs.size := fun c hc => by
    obtain ⟨o, ho, _⟩ := (turn_zipN (P := X.prog) (w := X.w) (K := X.K) (tg := .Name "p" default) D fun _ _ => rfl).obj 0 _ st c hc
    exact Heap.lt_size ho
  have qf : s.heap.objs.size ∉ [z, TI, TO, i1, i2] := fun hm => absurd (lt _ hm) (Nat.lt_irrefl _)
  generalize hq : s.heap.objs.size = qa at *
  have I1 : Inv X pins σ (upd H qa (.lst [])) { s with heap := s.heap.push { cls := .type "list", data := .seq #[] } } := by
    rw [← hq]
    exact I.lnew (its := []) (t' := s.toks) .nil (Nat.zero_le _)
  show wpAny _ _ (do let old ← Builtin.List.listItems (.ref qa); Builtin.List.listUpdate (.ref qa) (fun _ => #[]); letGo old.toList.reverse; Builtin.List.listExtendWith (.ref qa) (.ref z) .none) _ _ _
  refine wpAny_bind ?_
  unfold Builtin.List.listItems
  refine wpAny_bind (wpAny_seqItems hS rfl (wpAny_pure ?_))
  show wpAny _ _ (updateSeq qa (fun _ => #[]) >>= fun _ => letGo (#[] : Array Value).toList.reverse >>= fun _ => Builtin.List.listExtendWith (.ref qa) (.ref z) .none) _ _ _
  refine wpAny_bind (wpAny_updateSeq hS rfl ?_)
  have I2 := I1.lset (f := fun _ => #[]) (its := []) (its' := []) (ys := []) (t' := s.toks) upd_same hS rfl .nil (Nat.zero_le _)
  rw [upd_upd] at I2
  refine wpAny_bind (wpAny_letGo ?_)
  have st2 := st.keep (h' := s.heap.push { cls := .type "list", data := .seq #[] }) fun c _ o w => Heap.get?_push_of_some _ w
  have st3 := st2.keep (h' := (s.heap.push { cls := .type "list", data := .seq #[] }).update qa (Obj.mapSeq fun _ => #[])) fun c hc o w => (Heap.get?_update_other _ _ (fun e : qa = c => qf (e ▸ hc))).trans w
  have hz3 := st3
  obtain ⟨⟨f0, f1, ok, hz4⟩, _⟩ := hz3
  unfold Builtin.List.listExtendWith
  have ty : Shared.TypeIs { s with heap := (s.heap.push { cls := .type "list", data := .seq #[] }).update qa (Obj.mapSeq fun _ => #[]) } (.ref z) "zip" := ⟨_, hz4, rfl⟩
  refine wpAny_bind (wpAny_typeOf ty ?_)
  have qz : qa ≠ z := fun e => qf (by simp [e])
  have h1 : Builtin.List.listSameRef (.ref qa) (.ref z) = false := by simp [Builtin.List.listSameRef, qz]
  have h2 : (Value.type "zip" == Value.type "list") = false := by decide
  have h3 : (Value.type "zip" == Value.type "tuple") = false := by decide
  simp only [h1, h2, h3, Bool.or_false, Bool.false_eq_true, if_false]
  refine wpAny_bind (iter_zip hz4 ?_)
  refine wpAny_bind (wpAny_holding (hint_zip hz4 ?_))
  obtain ⟨z5, its5, k5, r5, hl5, e5⟩ := I2.lstM upd_same
  cases r5
  have S0 : Same H (upd H qa (.lst [])) := same_new (Same.refl H) fr
  have nf2 : ∀ c ∈ [z, TI, TO, i1, i2], FpOk X pins (upd H qa (.lst [])) c := fun c hc => ⟨by rw [upd_ne (fun e : c = qa => qf (e ▸ hc))]; exact (hf c hc).1, (hf c hc).2⟩
  have fin : ∀ s', Inv X pins σ (upd H qa (.lst [])) s' → ZipSt z TI TO i1 i2 a b 0 s'.heap → codeAny (model X.prog X.w) A.in1 (.builtin "list.extend.loop" ⟨[.ref qa, .ref z, .none], []⟩) (wants (fun r s₂ => r = .none ∧ Q (.ref qa) s₂) E) s' := fun s' J st' =>
    fill_zip (A := A.in1) (H0 := H) (R := wants (fun r s₂ => r = .none ∧ Q (.ref qa) s₂) E) hh D hn hn2 he hz qf fr hx hy (fun H' s2 ps J' S' hq' hl' hp' => ⟨rfl, q qa H' s2 ps fr J' S' hq' hl' hp'⟩) n 0 [] _ s' rfl (Nat.zero_le _) J nf2 st' S0 upd_same rfl (fun i p e => by simp at e)
  refine wpAny_ite_split (fun _ => ?_) (fun _ => wpAny_pure ⟨plainId_quiet PySem.F.plain_extend_loop _, fin _ I2 st3⟩)
  refine wpAny_bind (wpAny_rule ?_)
  refine wpAny_bind ?_
  show wpAny _ _ (updateSeq qa (·.push .none) >>= fun _ => updateSeq qa (·.pop)) _ _ _
  refine wpAny_bind (wpAny_updateSeq e5 rfl ?_)
  have I3 := I2.lset (f := (·.push Value.none)) (its' := [Value.none]) (ys := [.non]) (t' := s.toks) upd_same e5 (by simp) (.cons rfl .nil) (by rw [List.length_singleton, sizeLine_eq]; decide)
  obtain ⟨z6, its6, k6, r6, hl6, e6⟩ := I3.lstM upd_same
  obtain ⟨u6, rfl, ru6⟩ := r6.one
  refine wpAny_updateSeq e6 rfl ?_ (by show 1 ≤ sizeLine; rw [sizeLine_eq]; decide) (by show 0 ≤ sizeLine + 1; exact Nat.zero_le _)
  have I4 := I3.lset (f := (·.pop)) (its := [u6]) (its' := []) (ys := []) (t' := s.toks) upd_same e6 (by rfl) .nil (Nat.zero_le _)
  rw [upd_upd, upd_upd] at I4
  have oth : ∀ (h : Heap) (f : Obj → Obj) (c : Addr), c ∈ [z, TI, TO, i1, i2] → ∀ o, h.get? c = some o → (h.update qa f).get? c = some o := fun h f c hc o w => (Heap.get?_update_other _ _ (fun e : qa = c => qf (e ▸ hc))).trans w
  exact wpAny_pure ⟨plainId_quiet PySem.F.plain_extend_loop _, fin _ I4 ((st3.keep (oth _ _)).keep (oth _ _))⟩
end
def tListZip (K : PySem.W.Frag) (ta : TA) : TE := fun σ H Q => ta σ H fun vs H1 => ∃ a b xs ys n, vs = [.ref a, .ref b] ∧ SqT K H1 a xs ∧ SqT K H1 b ys ∧ n ≤ xs.length ∧ n ≤ ys.length ∧ (n = xs.length ∨ n = ys.length) ∧ n < sizeLine ∧
  ∀ q H' ps, H1 q = none → Same H1 H' → H' q = some (.lst (ps.map V.ref)) → ps.length = n → PairsAt H' ps xs ys → Q (.ref q) H'
theorem pe_listZip {X : Cx} {e e2 : Expr} {ta : TA} {p p2 q pos : Pos} (hg : Gl X "list") (hm : X.mg "list" = none) (hg2 : Gl X "zip") (hm2 : X.mg "zip" = none) (ha : PA X [e, e2] ta) (hc : X.calm = true := by rfl)
    (hs : starEach [e, e2] X.env = (false, eval e X.env) :: starEach [e2] X.env := by rfl) (hpl : (backTo q (starEach [e2] X.env)).any (·.1) = false := by rfl)
    (hso : starEach [.Call (.Name "zip" p2) [e, e2] [] q] X.env = (false, eval (.Call (.Name "zip" p2) [e, e2] [] q) X.env) :: starEach [] X.env := by rfl) :
    PE X (.Call (.Name "list" p) [.Call (.Name "zip" p2) [e, e2] [] q] [] pos) (tListZip X.K ta) := by
  refine ⟨fun pins s σ H Q I h => ?_⟩
  refine Call_ (ld_blt I hg hm bt_list ?_)
  refine PyProof.Rows.callWith_type1 (PyProof.Rows.args_cons ?_ hso) hso rfl
  refine Call_ (ld_blt I hg2 hm2 PyProof.Rows.boot_zip (PyProof.Rows.callWith_type1 (thn (ha.run q pins s σ H _ I h) fun us s1 ⟨vs, H1, I1, r1, q1⟩ => ?_) hs hpl))
  obtain ⟨a, b, xs, ys, n, ex, hx, hy, hn, hn2, he, hz, q1⟩ := q1
  subst ex
  cases r1 with
  | cons r rr =>
    cases rr with
    | cons r' rr =>
      cases rr
      cases r
      cases r'
      refine zip_made I1 hx hy fun z TI TO i1 i2 s' D I' st hf _ => ?_
      refine PyProof.Rows.args_nil ?_
      exact list_zip (I'.ok.hd hc) D hn hn2 he hz I' hf st hx hy fun q H' s2 ps nq J S hq hl hp => ⟨.ref q, H', J, rfl, q1 q H' ps nq S hq hl hp⟩
end Far

namespace Far
open PySem PySem.Spec PyProof.Rows L2
open SX (S)
/-! ### sorted of a list whose items are data of one kind -/
theorem each_fst : ∀ {bs : List (V × PyData)} {us : List Value}, Vals (bs.map (·.1)) us → PySem.W.EachIs (fun u b => RelV b.1 u) us bs
  | [], [], .nil => .nil
  | _ :: _, _ :: _, .cons h t => .cons h (each_fst t)
theorem fst_each {us : List Value} {bs : List (V × PyData)} (h : PySem.W.EachIs (fun u b => RelV b.1 u) us bs) : Vals (bs.map (·.1)) us := by
  induction h with
  | nil => exact .nil
  | cons e _ ih => exact .cons e ih
def rSortedD (K : PySem.W.Frag) : List V → Hp → VK → Prop := fun vs H Q => ∃ (a : Addr) (bs : List (V × PyData)), vs = [V.ref a] ∧ SqL K H a (bs.map (·.1)) ∧ (∀ b ∈ bs, Dp K H b.1 b.2 ∧ b.2.depth ≤ 8) ∧ PySem.W.AllAlike (bs.map (·.2)) ∧ PySem.W.Sortable (bs.map (·.2)) ∧
  ∀ p, H p = none → Q (.ref p) (upd H p (.lst ((bs.mergeSort (PySem.W.dataLe false (·.2))).map (·.1))))
section
variable {X : Cx}
theorem each_dp {pins : List (Addr × Obj)} {σ : L2.St} {H : Hp} {s : Shared} (I : Inv X pins σ H s) : ∀ {bs : List (V × PyData)} {us : List Value}, (∀ b ∈ bs, Dp X.K H b.1 b.2 ∧ b.2.depth ≤ 8) → Vals (bs.map (·.1)) us → PySem.W.EachIs (fun u b => ∃ as, Reads s.heap u b.2 as) us bs
  | [], [], _, .nil => .nil
  | b :: _, _ :: _, hb, .cons h t => .cons (Dp.reads I _ _ _ (hb b List.mem_cons_self).1 h) (each_dp I (fun x hx => hb x (List.mem_cons_of_mem _ hx)) t)
theorem cr_sortedD (hr : Room 1 X.A) : CallR X (.builtin "sorted") (rSortedD X.K) := by
  intro pins s σ H vs us Q I r h
  obtain ⟨a, bs, rfl, hs, hb, hal, hk, q⟩ := h
  obtain ⟨its, rv, hl, hz⟩ := I.list hs
  rw [Vals.ref1 r]
  rw [List.length_map] at hz
  refine PySem.W.sorted_data (R := fun u b => RelV b.1 u) (bs := bs) (enc := (·.2)) hl.isList (each_fst rv) (each_dp I hb rv) hal hk hz (fun b hm => ?_) fun out ho he => ?_
  · have := hr.un
    have := (hb b hm).2
    omega
  · obtain ⟨ep, he'⟩ := PyProof.Rows.sortedAll_at s.heap its out.toArray
    exact ⟨.ref _, upd H (s.heap.objs.size + 1) (.lst ((bs.mergeSort (PySem.W.dataLe false (·.2))).map (·.1))), I.laid (t' := s.toks) (fun _ _ => PyProof.Rows.sortedAll_old) (Nat.le_succ _) ⟨by rw [List.length_map, List.length_mergeSort]; exact hz, out, ep, fst_each he, he'⟩, rfl, q _ (I.hok.fresh (Nat.le_succ _))⟩
theorem cr_sortedDL {K : PySem.W.Frag} (hr : Room 1 X.A) (eK : X.K = K := by rfl) : CallR X (.builtin "sorted") (rSortedD K) := by subst eK; exact cr_sortedD hr
theorem op_eqDL {K : PySem.W.Frag} (hu : X.A.units + 64 < cLine) (eK : X.K = K := by rfl) : OpR X (compareOp .Eq) (rEqD K) := by subst eK; exact op_eqD hu
end
theorem bt_sorted19 : bootBuiltins ("sorted" : Str) = some (.builtin "sorted") := by decide +kernel
theorem ms_two {α : Type} (le : α → α → Bool) (x y : α) : [x, y].mergeSort le = if le x y = true then [x, y] else [y, x] := by
  by_cases c : le x y = true
  · simp [List.mergeSort, List.MergeSort.Internal.splitInTwo, List.merge, c]
  · simp [List.mergeSort, List.MergeSort.Internal.splitInTwo, List.merge, c]
/-- two names in their order -/
def leN (a b : Nm) : Bool := decide ((S a).cps.toList ≤ (S b).cps.toList)
def two (a b : Nm) : List Nm := if leN a b = true then [a, b] else [b, a]
theorem leN_total (a b : Nm) : leN a b = true ∨ leN b a = true := by
  unfold leN
  rw [decide_eq_true_eq, decide_eq_true_eq]
  exact List.le_total _ _
theorem leN_anti {a b : Nm} (h1 : leN a b = true) (h2 : leN b a = true) : a = b := by
  unfold leN at h1 h2
  rw [decide_eq_true_eq] at h1 h2
  have e := List.le_antisymm h1 h2
  exact SX.S_inj (by
    show (S a) = S b
    have e2 : (S a).cps = (S b).cps := Array.toList_inj.mp e
    cases ha : S a with
    | mk x =>
      cases hb : S b with
      | mk y =>
        rw [ha, hb] at e2
        rw [show x = y from e2])
theorem two_eq {a b c d : Nm} : two a b = two c d ↔ (a, b) = (c, d) ∨ (a, b) = (d, c) := by
  unfold two
  rw [Prod.mk.injEq, Prod.mk.injEq]
  by_cases h1 : leN a b = true <;> by_cases h2 : leN c d = true
  · rw [if_pos h1, if_pos h2]
    simp only [List.cons.injEq, and_true]
    refine ⟨.inl, fun h => h.elim id fun ⟨e1, e2⟩ => ?_⟩
    subst e1 e2
    have := leN_anti h1 h2
    exact ⟨this, this.symm⟩
  · rw [if_pos h1, if_neg h2]
    simp only [List.cons.injEq, and_true]
    refine ⟨.inr, fun h => h.elim (fun ⟨e1, e2⟩ => ?_) id⟩
    subst e1 e2
    exact absurd h1 h2
  · rw [if_neg h1, if_pos h2]
    simp only [List.cons.injEq, and_true]
    refine ⟨fun ⟨e1, e2⟩ => .inr ⟨e2, e1⟩, fun h => h.elim (fun ⟨e1, e2⟩ => ?_) fun ⟨e1, e2⟩ => ⟨e2, e1⟩⟩
    subst e1 e2
    exact absurd h2 h1
  · rw [if_neg h1, if_neg h2]
    simp only [List.cons.injEq, and_true]
    refine ⟨fun ⟨e1, e2⟩ => .inl ⟨e2, e1⟩, fun h => h.elim (fun ⟨e1, e2⟩ => ⟨e2, e1⟩) fun ⟨e1, e2⟩ => ?_⟩
    subst e1 e2
    have := leN_total a b
    rcases this with h | h
    · exact absurd h h1
    · exact absurd h h2
/-- sorted([one, other]) of two texts -/
theorem srt_two (a b : Nm) : (([(V.str (S a), strD a), (V.str (S b), strD b)] : List (V × PyData)).mergeSort (PySem.W.dataLe false (·.2))).map (·.1) = ((two a b).map S).map V.str := by
  have e : ∀ x y : Nm, PySem.W.dataLe false (·.2) ((V.str (S x), strD x) : V × PyData) (V.str (S y), strD y) = leN x y := fun x y =>
    congrFun (congrFun (PySem.W.dataLe_str fun z : Nm => S z) x) y
  rw [ms_two, e]
  unfold two
  by_cases c : leN a b = true
  · rw [if_pos c, if_pos c]
    rfl
  · rw [if_neg c, if_neg c]
    rfl
theorem srt_all (a b : Nm) : PySem.W.AllAlike (([(V.str (S a), strD a), (V.str (S b), strD b)] : List (V × PyData)).map (·.2)) ∧ PySem.W.Sortable (([(V.str (S a), strD a), (V.str (S b), strD b)] : List (V × PyData)).map (·.2)) := by
  constructor
  · intro d hd d' hd'
    simp only [List.map_cons, List.map_nil, List.mem_cons, List.not_mem_nil, or_false] at hd hd'
    rcases hd with rfl | rfl <;> rcases hd' with rfl | rfl <;> rfl
  · refine .inr fun d hd => ?_
    simp only [List.map_cons, List.map_nil, List.mem_cons, List.not_mem_nil, or_false] at hd
    rcases hd with rfl | rfl
    · exact ⟨(by intro z; cases z), fun xs z => by cases z⟩
    · exact ⟨(by intro z; cases z), fun xs z => by cases z⟩
end Far

namespace Far
open PySem PySem.Spec PyProof.Rows L2
theorem vals_refs : ∀ {ps : List Addr} {us : List Value}, Vals (ps.map V.ref) us → us = ps.map Value.ref
  | [], [], .nil => rfl
  | p :: ps, _ :: _, .cons h t => by
    cases h
    rw [vals_refs t]
    rfl
section
variable {X : Cx} {pins : List (Addr × Obj)} {σ : L2.St} {H0 H : Hp} {s : Shared} {z TI TO i1 i2 a b q : Addr} {A : Around} {E : Value → Shared → Prop} {xs ys : List V} {n : Nat} {R : Result → Shared → Prop}
/-- the list at q filled with the pairs, what is handed out named -/
theorem fill_zipF (ret : Value) (hh : A.handled = none) (D : ZipAp z TI TO i1 i2 a b) (hn : n ≤ xs.length) (hn2 : n ≤ ys.length) (he : n = xs.length ∨ n = ys.length) (hz : n < sizeLine) (qf : q ∉ [z, TI, TO, i1, i2]) (qn : H0 q = none)
    (hx : SqT X.K H0 a xs) (hy : SqT X.K H0 b ys)
    (hR : ∀ H' s' ps, Inv X pins σ H' s' → Same H0 H' → H' q = some (.lst (ps.map V.ref)) → ps.length = n → PairsAt H' ps xs ys → R (.ok (.ret ret)) s') :
    ∀ (k i : Nat) (ps : List Addr) (H : Hp) (s : Shared), n - i = k → i ≤ n → Inv X pins σ H s → (∀ c ∈ [z, TI, TO, i1, i2], FpOk X pins H c) → ZipSt z TI TO i1 i2 a b i s.heap → Same H0 H → H q = some (.lst (ps.map V.ref)) → ps.length = i → PairsAt H ps xs ys →
      codeAny (model X.prog X.w) A (.builtin "list.extend.loop" ⟨[.ref q, .ref z, ret], []⟩) R s := by
  intro k
  induction k with
  | zero =>
    intro i ps H s ek hi I hf st S hq hl hp
    have ei : i = n := by omega
    refine codeAny_builtin PySem.F.entry_extend_loop ?_
    rw [Around.under_plainId PySem.F.plain_extend_loop _]
    show wpAny _ A.in1 (pyNext (.ref z) >>= _) _ _ s
    refine wpAny_bind (zip_over (A := A.in1) hh D I hf st (same_seqT S hx) (same_seqT S hy) (by omega) (by omega) (by omega) fun s' I' _ => ?_)
    exact wpAny_pure (hR H s' ps I' S hq (by omega) hp)
  | succ k ih =>
    intro i ps H s ek hi I hf st S hq hl hp
    have lt : i < n := by omega
    refine codeAny_builtin PySem.F.entry_extend_loop ?_
    rw [Around.under_plainId PySem.F.plain_extend_loop _]
    show wpAny _ A.in1 (pyNext (.ref z) >>= _) _ _ s
    refine wpAny_bind (zip_turn (A := A.in1) hh D I hf st (same_seqT S hx) (same_seqT S hy) (x := xs[i]'(by omega)) (y := ys[i]'(by omega)) (by simp) (by simp) fun T s' nT I' st' nf kk eT => ?_)
    show wpAny _ A.in1 (updateSeq q (·.push (.ref T)) >>= _) _ _ _
    have qT : q ≠ T := ne_of_none hq nT
    have hq' : (upd H T (.tup [xs[i]'(by omega), ys[i]'(by omega)])) q = some (.lst (ps.map V.ref)) := by
      rw [upd_ne qT]
      exact hq
    obtain ⟨sz, its, m, rv, hlen, e⟩ := I'.lstM hq'
    rw [List.length_map] at hlen
    refine wpAny_bind (wpAny_updateSeq e rfl (wpAny_pure ⟨plainId_quiet PySem.F.plain_extend_loop _, ?_⟩) (by rw [List.size_toArray]; omega) (by show (its.toArray.push (Value.ref T)).size ≤ sizeLine + 1; rw [Array.size_push, List.size_toArray]; omega))
    have I2 := I'.lset (its' := its ++ [.ref T]) (ys := (ps ++ [T]).map V.ref) (f := (·.push (Value.ref T))) (t' := s'.toks) hq' e (by simp) (by rw [List.map_append]; exact rv.append (.cons rfl .nil)) (by rw [List.length_map, List.length_append, List.length_singleton]; omega)
    refine ih (i + 1) (ps ++ [T]) _ _ (by omega) (by omega) I2 (fun c hc => ?_) (st'.keep fun c hc o w => ?_) ?_ upd_same (by rw [List.length_append, List.length_singleton]; omega) ?_
    · have cq : c ≠ q := fun w => qf (w ▸ hc)
      exact ⟨by rw [upd_ne cq]; exact nf c hc, (hf c hc).2⟩
    · have cq : c ≠ q := fun w => qf (w ▸ hc)
      exact (Heap.get?_update_other _ _ (Ne.symm cq)).trans w
    · intro c o w
      have cq : c ≠ q := fun e => by rw [e, qn] at w; cases w
      rw [upd_ne cq, upd_ne (ne_of_none (S c o w) nT)]
      exact S c o w
    · intro j p ej
      have tq : T ≠ q := Ne.symm qT
      by_cases hj : j < ps.length
      · rw [List.getElem?_append_left hj] at ej
        obtain ⟨x, y, f1, f2, f3⟩ := hp j p ej
        refine ⟨x, y, f1, f2, ?_⟩
        rw [upd_ne (ne_of f3 hq (fun z => nomatch z)), upd_ne (ne_of_none f3 nT)]
        exact f3
      · rw [List.getElem?_append_right (by omega)] at ej
        have ej0 : j = i := by
          have := (List.getElem?_eq_some_iff.mp ej).1
          simp at this
          omega
        subst ej0
        rw [hl] at ej
        simp at ej
        subst ej
        exact ⟨xs[j]'(by omega), ys[j]'(by omega), by simp, by simp, by rw [upd_ne tq]; exact upd_same⟩
/-- what collect makes of zip(a, b) -/
theorem collect_zip {Q : List Value → Shared → Prop} {A : Around} (hh : A.handled = none) (D : ZipAp z TI TO i1 i2 a b) (hn : n ≤ xs.length) (hn2 : n ≤ ys.length) (he : n = xs.length ∨ n = ys.length) (hz : n < sizeLine)
    (I : Inv X pins σ H s) (hf : ∀ c ∈ [z, TI, TO, i1, i2], FpOk X pins H c) (st : ZipSt z TI TO i1 i2 a b 0 s.heap) (hx : SqT X.K H a xs) (hy : SqT X.K H b ys)
    (q : ∀ H' s' ps, Inv X pins σ H' s' → Same H H' → ps.length = n → PairsAt H' ps xs ys → Q (ps.map Value.ref) s') : wpAny (model X.prog X.w) A (collect (.ref z)) Q E s := by
  unfold collect
  refine wpAny_bind (wpAny_runValue (codeAny_builtin PySem.F.entry_proto_collect ?_))
  rw [Around.under_plainId PySem.F.plain_proto_collect _]
  show wpAny _ A.in1 (newList [] >>= fun l => again (.builtin "list.__iadd__" ⟨[l, .ref z], []⟩)) _ _ s
  refine wpAny_bind (wpAny_newObj_type ?_)
  refine wpAny_pure ⟨plainId_quiet PySem.F.plain_list_iadd _, codeAny_builtin PySem.F.entry_list_iadd ?_⟩
  rw [Around.under_plainId PySem.F.plain_list_iadd _]
  have hS : (s.heap.push { cls := .type "list", data := .seq #[] }).get? s.heap.objs.size = some { cls := .type "list", data := .seq #[] } := Heap.get?_push_size _ rfl
  have fr : H s.heap.objs.size = none := I.hok.fresh (Nat.le_refl _)
  have lt : ∀ c ∈ [z, TI, TO, i1, i2], c < s.heap.objs.size := fun c hc => by
    obtain ⟨o, ho, _⟩ := (turn_zipN (P := X.prog) (w := X.w) (K := X.K) (tg := .Name "p" default) D fun _ _ => rfl).obj 0 _ st c hc
    exact Heap.lt_size ho
  have qf : s.heap.objs.size ∉ [z, TI, TO, i1, i2] := fun hm => absurd (lt _ hm) (Nat.lt_irrefl _)
  generalize hq : s.heap.objs.size = qa at *
  have I1 : Inv X pins σ (upd H qa (.lst [])) { s with heap := s.heap.push { cls := .type "list", data := .seq #[] } } := by
    rw [← hq]
    exact I.lnew (its := []) (t' := s.toks) .nil (Nat.zero_le _)
  show wpAny _ _ (Builtin.List.listExtendWith (.ref qa) (.ref z) (.ref qa)) _ _ _
  have st3 := st.keep (h' := s.heap.push { cls := .type "list", data := .seq #[] }) fun c _ o w => Heap.get?_push_of_some _ w
  have hz3 := st3
  obtain ⟨⟨f0, f1, ok, hz4⟩, _⟩ := hz3
  unfold Builtin.List.listExtendWith
  have ty : Shared.TypeIs { s with heap := s.heap.push { cls := .type "list", data := .seq #[] } } (.ref z) "zip" := ⟨_, hz4, rfl⟩
  refine wpAny_bind (wpAny_typeOf ty ?_)
  have qz : qa ≠ z := fun e => qf (by simp [e])
  have h1 : Builtin.List.listSameRef (.ref qa) (.ref z) = false := by simp [Builtin.List.listSameRef, qz]
  have h2 : (Value.type "zip" == Value.type "list") = false := by decide
  have h3 : (Value.type "zip" == Value.type "tuple") = false := by decide
  simp only [h1, h2, h3, Bool.or_false, Bool.false_eq_true, if_false]
  refine wpAny_bind (iter_zip hz4 ?_)
  refine wpAny_bind (wpAny_holding (hint_zip hz4 ?_))
  obtain ⟨z5, its5, k5, r5, hl5, e5⟩ := I1.lstM upd_same
  cases r5
  have S0 : Same H (upd H qa (.lst [])) := same_new (Same.refl H) fr
  have nf2 : ∀ c ∈ [z, TI, TO, i1, i2], FpOk X pins (upd H qa (.lst [])) c := fun c hc => ⟨by rw [upd_ne (fun e : c = qa => qf (e ▸ hc))]; exact (hf c hc).1, (hf c hc).2⟩
  have fin : ∀ s', Inv X pins σ (upd H qa (.lst [])) s' → ZipSt z TI TO i1 i2 a b 0 s'.heap → codeAny (model X.prog X.w) A (.builtin "list.extend.loop" ⟨[.ref qa, .ref z, .ref qa], []⟩) (fun r s' => match r with
      | .ok (.ret v) => wpAny (model X.prog X.w) A (match v with | .ref a => (do match (← load a).data with | .seq xs _ => pure xs.toList | _ => unsupported "internal:collect") | _ => unsupported "internal:collect") Q E s'
      | .ok _ => False
      | .error e => E e s') s' := fun s' J st' => by
    refine fill_zipF (ret := .ref qa) (A := A) (H0 := H) hh D hn hn2 he hz qf fr hx hy (fun H' s2 ps J' S' hq' hl' hp' => ?_) n 0 [] _ _ rfl (Nat.zero_le _) J nf2 st' S0 upd_same rfl (fun i p e => by simp at e)
    obtain ⟨sz, its, m, rv, hlen, e⟩ := J'.lstM hq'
    show wpAny _ A (load qa >>= _) _ _ _
    refine wpAny_bind (wpAny_load e ?_)
    refine wpAny_pure ?_
    rw [vals_refs rv]
    exact q H' s2 ps J' S' hl' hp'
  refine wpAny_ite_split (fun _ => ?_) (fun _ => wpAny_pure ⟨plainId_quiet PySem.F.plain_extend_loop _, fin _ I1 st3⟩)
  refine wpAny_bind (wpAny_rule ?_)
  refine wpAny_bind ?_
  show wpAny _ _ (updateSeq qa (·.push .none) >>= fun _ => updateSeq qa (·.pop)) _ _ _
  refine wpAny_bind (wpAny_updateSeq e5 rfl ?_)
  have I3 := I1.lset (f := (·.push Value.none)) (its' := [Value.none]) (ys := [.non]) (t' := s.toks) upd_same e5 (by simp) (.cons rfl .nil) (by rw [List.length_singleton, sizeLine_eq]; decide)
  obtain ⟨z6, its6, k6, r6, hl6, e6⟩ := I3.lstM upd_same
  obtain ⟨u6, rfl, ru6⟩ := r6.one
  refine wpAny_updateSeq e6 rfl ?_ (by show 1 ≤ sizeLine; rw [sizeLine_eq]; decide) (by show 0 ≤ sizeLine + 1; exact Nat.zero_le _)
  have I4 := I3.lset (f := (·.pop)) (its := [u6]) (its' := []) (ys := []) (t' := s.toks) upd_same e6 (by rfl) .nil (Nat.zero_le _)
  rw [upd_upd, upd_upd] at I4
  have oth : ∀ (h : Heap) (f : Obj → Obj) (c : Addr), c ∈ [z, TI, TO, i1, i2] → ∀ o, h.get? c = some o → (h.update qa f).get? c = some o := fun h f c hc o w => (Heap.get?_update_other _ _ (fun e : qa = c => qf (e ▸ hc))).trans w
  exact wpAny_pure ⟨plainId_quiet PySem.F.plain_extend_loop _, fin _ I4 ((st3.keep (oth _ _)).keep (oth _ _))⟩
end
theorem each_of {ps : List Addr} {bs : List (Addr × Int × Str)} {h : Heap} (hb : ∀ b ∈ bs, ∃ as, Reads h (.ref b.1) (.tuple [.int b.2.1, .str b.2.2]) as) : PySem.W.EachIs (fun v b => ∃ as, Reads h v ((fun z : Addr × Int × Str => PyData.tuple [.int z.2.1, .str z.2.2]) b) as) (bs.map fun b => Value.ref b.1) bs := by
  induction bs with
  | nil => exact .nil
  | cons b r ih => exact .cons (hb b (List.mem_cons_self ..)) (ih fun x hx => hb x (List.mem_cons_of_mem _ hx))
/-- sorted(zip(a, b), reverse=True), a of whole numbers, b of texts -/
def tSortZip (K : PySem.W.Frag) (ta : TA) : TE := fun σ H Q => ta σ H fun vs H1 => ∃ (a b : Addr) (ns : List Int) (ts : List Str), vs = [.ref a, .ref b] ∧ SqT K H1 a (ns.map V.int) ∧ SqT K H1 b (ts.map V.str) ∧ ns.length = ts.length ∧ ns.length < sizeLine ∧
  ∀ (l : Addr) (H' : Hp) (bs : List (Addr × Int × Str)), H1 l = none → Same H1 H' → H' l = some (.lst (bs.map fun z => V.ref z.1)) → (bs.map (·.2)).Perm (ns.zip ts) → (bs.map (·.2.1)).Pairwise (fun x y => y ≤ x) → (∀ z ∈ bs, H' z.1 = some (.tup [.int z.2.1, .str z.2.2])) → Q (.ref l) H'
end Far

namespace Far
open PySem PySem.Spec PyProof.Rows L2
/-- what stands at the pairs made by zip -/
def pair2 : List Addr → List Int → List Str → List (Addr × Int × Str)
  | p :: ps, n :: ns, t :: ts => (p, n, t) :: pair2 ps ns ts
  | _, _, _ => []
theorem pair2_fst : ∀ {ps : List Addr} {ns : List Int} {ts : List Str}, ps.length = ns.length → ns.length = ts.length → (pair2 ps ns ts).map (·.1) = ps ∧ (pair2 ps ns ts).map (·.2) = ns.zip ts
  | [], [], [], _, _ => ⟨rfl, rfl⟩
  | p :: ps, n :: ns, t :: ts, h1, h2 => by
    obtain ⟨a, b⟩ := pair2_fst (ps := ps) (ns := ns) (ts := ts) (by simpa using h1) (by simpa using h2)
    exact ⟨by show p :: _ = _; rw [a], by show (n, t) :: _ = _; rw [b]; rfl⟩
  | [], _ :: _, _, h1, _ => by simp at h1
  | _ :: _, [], _, h1, _ => by simp at h1
  | _, [], _ :: _, _, h2 => by simp at h2
  | _, _ :: _, [], _, h2 => by simp at h2
theorem pair2_at {H : Hp} : ∀ {ps : List Addr} {ns : List Int} {ts : List Str}, PairsAt H ps (ns.map V.int) (ts.map V.str) → ∀ z ∈ pair2 ps ns ts, H z.1 = some (.tup [.int z.2.1, .str z.2.2])
  | [], _, _, _, z, hz => by simp [pair2] at hz
  | _ :: _, [], _, _, z, hz => by simp [pair2] at hz
  | _ :: _, _ :: _, [], _, z, hz => by simp [pair2] at hz
  | p :: ps, n :: ns, t :: ts, h, z, hz => by
    rcases List.mem_cons.mp hz with rfl | hz
    · obtain ⟨x, y, e1, e2, e3⟩ := h 0 p rfl
      cases e1
      cases e2
      exact e3
    · exact pair2_at (fun i q e => h (i + 1) q e) z hz
def encZ (z : Addr × Int × Str) : PyData := .tuple [.int z.2.1, .str z.2.2]
theorem encZ_alike (bs : List (Addr × Int × Str)) : PySem.W.AllAlike (bs.map encZ) := by
  intro d hd d' hd'
  obtain ⟨u, _, rfl⟩ := List.mem_map.mp hd
  obtain ⟨u', _, rfl⟩ := List.mem_map.mp hd'
  simp [encZ, PySem.W.alike, PySem.W.alikeAll]
theorem encZ_sortable (bs : List (Addr × Int × Str)) : PySem.W.Sortable (bs.map encZ) := .inl fun d hd => by
  obtain ⟨u, _, rfl⟩ := List.mem_map.mp hd
  exact ⟨_, _, rfl⟩
def leZ (x y : Addr × Int × Str) : Prop := y.2.1 < x.2.1 ∨ (y.2.1 = x.2.1 ∧ y.2.2.cps.toList ≤ x.2.2.cps.toList)
theorem leZ_of {x y : Addr × Int × Str} : PySem.W.dataLe true encZ x y = true ↔ leZ x y := by
  rw [PySem.W.dataLe_eq]
  show (!PySem.W.dataLt (encZ x) (encZ y)) = true ↔ _
  unfold encZ leZ
  rw [PySem.W.dataLt_pair (by simp [PySem.W.alike]) (by simp [PySem.W.alike]), PySem.W.dataLt_int, PySem.W.dataLt_str]
  by_cases c : x.2.1 = y.2.1
  · by_cases d : x.2.2 = y.2.2
    · simp only [PyData.eqv, c, d, beq_self_eq_true, if_true, Bool.not_false, true_iff]
      exact .inr ⟨trivial, List.le_refl _⟩
    · have d' : (x.2.2 == y.2.2) = false := by simpa using d
      simp only [PyData.eqv, c, d', beq_self_eq_true, if_true, Bool.false_eq_true, if_false, Bool.not_eq_true', decide_eq_false_iff_not, List.not_lt]
      refine ⟨fun h => .inr ⟨trivial, h⟩, fun h => h.elim (fun z => absurd z (Int.lt_irrefl _)) (·.2)⟩
  · have c' : (x.2.1 == y.2.1) = false := by simpa using c
    simp only [PyData.eqv, c', Bool.false_eq_true, if_false, Bool.not_eq_true', decide_eq_false_iff_not]
    constructor
    · intro h
      left
      omega
    · intro h
      rcases h with h | h
      · omega
      · exact absurd h.1.symm c
theorem leZ_trans {x y z : Addr × Int × Str} (h1 : leZ x y) (h2 : leZ y z) : leZ x z := by
  rcases h1 with h1 | ⟨h1, k1⟩ <;> rcases h2 with h2 | ⟨h2, k2⟩
  · left; omega
  · left; omega
  · left; omega
  · right; exact ⟨h2.trans h1, List.le_trans k2 k1⟩
theorem leZ_total (x y : Addr × Int × Str) : leZ x y ∨ leZ y x := by
  unfold leZ
  rcases Int.lt_trichotomy x.2.1 y.2.1 with h | h | h
  · exact .inr (.inl h)
  · rcases List.le_total x.2.2.cps.toList y.2.2.cps.toList with k | k
    · exact .inr (.inr ⟨h, k⟩)
    · exact .inl (.inr ⟨h.symm, k⟩)
  · exact .inl (.inl h)
theorem geZ {x y : Addr × Int × Str} (h : PySem.W.dataLe true encZ x y = true) : y.2.1 ≤ x.2.1 := by
  rcases leZ_of.mp h with h | h <;> omega
theorem each_refs {P : Value → Addr × Int × Str → Prop} : ∀ (bs : List (Addr × Int × Str)), (∀ b ∈ bs, P (.ref b.1) b) → PySem.W.EachIs P (bs.map fun b => Value.ref b.1) bs
  | [], _ => .nil
  | b :: r, h => .cons (h b List.mem_cons_self) (each_refs r fun x hx => h x (List.mem_cons_of_mem _ hx))
theorem vals_ofrefs : ∀ (bs : List (Addr × Int × Str)), Vals (bs.map fun b => V.ref b.1) (bs.map fun b => Value.ref b.1)
  | [] => .nil
  | _ :: r => .cons rfl (vals_ofrefs r)
theorem vals_each : ∀ {out : List Value} {bs : List (Addr × Int × Str)}, PySem.W.EachIs (fun (v : Value) (b : Addr × Int × Str) => v = .ref b.1) out bs → Vals (bs.map fun b => V.ref b.1) out
  | [], [], .nil => .nil
  | _ :: _, _ :: _, .cons h t => .cons (by rw [h]; rfl) (vals_each t)
section
variable {X : Cx}
theorem srt_pairs (hr : Room 2 X.A) {pins : List (Addr × Obj)} {σ : L2.St} {H1 : Hp} {s : Shared} {z TI TO i1 i2 a b : Addr} {ns : List Int} {ts : List Str} {Q : VK} (I : Inv X pins σ H1 s) (hh : X.A.handled = none) (D : ZipAp z TI TO i1 i2 a b)
    (hf : ∀ c ∈ [z, TI, TO, i1, i2], FpOk X pins H1 c) (st : ZipSt z TI TO i1 i2 a b 0 s.heap) (hx : SqT X.K H1 a (ns.map V.int)) (hy : SqT X.K H1 b (ts.map V.str)) (hl : ns.length = ts.length) (hz : ns.length < sizeLine)
    (q : ∀ (l : Addr) (H' : Hp) (bs : List (Addr × Int × Str)), H1 l = none → Same H1 H' → H' l = some (.lst (bs.map fun z => V.ref z.1)) → (bs.map (·.2)).Perm (ns.zip ts) → (bs.map (·.2.1)).Pairwise (fun x y => y ≤ x) → (∀ z ∈ bs, H' z.1 = some (.tup [.int z.2.1, .str z.2.2])) → Q (.ref l) H') :
    wpAny (model X.prog X.w) X.A (call (.builtin "sorted") [.ref z] [(Str.ofString "reverse", .bool true)]) (EP X pins σ Q) X.xe s := by
  refine call_function_entry_kw kind_sorted plain_sorted entry_sorted (args_sorted_rev _ _) ?_
  unfold Builtin.«sorted»
  refine wpAny_bind (m := checkCount "sorted" 1 1 _) (wpAny_pure ?_)
  refine wpAny_bind (collect_zip (n := ns.length) (A := X.A.in1) hh D (by simp) (by simp [hl]) (.inl (by simp)) hz I hf st hx hy fun H' s2 ps J S hp pa => ?_)
  obtain ⟨e1, e2⟩ := pair2_fst (ps := ps) (ns := ns) (ts := ts) hp hl
  have at2 := pair2_at pa
  generalize pair2 ps ns ts = bs at e1 e2 at2
  have hlen : bs.length = ns.length := by rw [← hp, ← e1, List.length_map]
  have er : ps.map Value.ref = bs.map fun b => Value.ref b.1 := by rw [← e1, List.map_map]; rfl
  rw [er]
  refine wpAny_bind (wpAny_newList (hsz := by rw [List.length_map, hlen]; exact Nat.le_of_lt hz) ?_)
  have ho : (s2.heap.push { cls := .type "list", data := .seq (bs.map fun b => Value.ref b.1).toArray }).get? s2.heap.objs.size = some (seqObj "list" (bs.map fun b => Value.ref b.1).toArray 0) := Heap.get?_push_size _ rfl
  have J1 : Inv X pins σ (upd H' s2.heap.objs.size (.lst (bs.map fun z => V.ref z.1))) { s2 with heap := s2.heap.push { cls := .type "list", data := .seq (bs.map fun b => Value.ref b.1).toArray } } := by
    refine J.lnew (its := bs.map fun b => Value.ref b.1) (t' := s2.toks) (vals_ofrefs bs) ?_
    rw [List.length_map, hlen]
    exact Nat.le_of_lt hz
  have fr : H' s2.heap.objs.size = none := J.hok.fresh (Nat.le_refl _)
  have old : ∀ b u, s2.heap.get? b = some u → b ≠ s2.heap.objs.size ∧ (s2.heap.push { cls := .type "list", data := .seq (bs.map fun b => Value.ref b.1).toArray }).get? b = some u := fun b u e => ⟨Nat.ne_of_lt (Heap.lt_size e), Heap.get?_push_of_some _ e⟩
  refine wpAny_bind (wpAny_holding (PySem.W.list_sort_rev_data (b := true) (R := fun v b => v = .ref b.1) (enc := encZ) (bs := bs) ho (each_refs bs fun _ _ => rfl) (each_refs bs fun b hb => ?_) (encZ_alike bs) (encZ_sortable bs) ?_ ?_ ?_))
  · have w : (upd H' s2.heap.objs.size (.lst (bs.map fun z => V.ref z.1))) b.1 = some (.tup [.int b.2.1, .str b.2.2]) := by
      rw [upd_ne (ne_of_none (at2 b hb) fr)]
      exact at2 b hb
    obtain ⟨_, its, rv, ht⟩ := J1.hok _ _ w
    cases rv with
    | cons r0 rr =>
      cases rr with
      | cons r1 rr =>
        cases rr
        obtain ⟨t0, rfl⟩ := r0
        obtain ⟨t1, rfl⟩ := r1
        obtain ⟨o, ho1, ho2, n0, ho3⟩ := ht
        exact ⟨[] ++ ([] ++ []), .tuple ho1 ho2 ho3 (.cons (.int _ _) (.cons (.str _ _) .nil)), by simp⟩
  · rw [hlen]
    exact Nat.le_of_lt hz
  · intro b _
    have := hr.un
    have e : (encZ b).depth = 1 := by simp [encZ, PyData.depth, PyData.depthAll]
    rw [e]
    show X.A.units + 1 + 1 + 1 < cLine
    omega
  · intro out ho2 eo
    refine wpAny_pure ⟨_, rfl, ?_⟩
    obtain ⟨ep, he⟩ := PyProof.Rows.sortedHeap_at (out := out.toArray) ho
    have hm : (bs.mergeSort (PySem.W.dataLe true encZ)).Perm bs := List.mergeSort_perm _ _
    refine ⟨.ref s2.heap.objs.size, upd H' s2.heap.objs.size (.lst ((bs.mergeSort (PySem.W.dataLe true encZ)).map fun z => V.ref z.1)), J.laid (t' := s2.toks) (fun b u e => (PyProof.Rows.sortedHeap_old (old b u e).1 (Heap.lt_size (old b u e).2)).trans (old b u e).2) (Nat.le_refl _) ⟨by rw [List.length_map, List.length_mergeSort, hlen]; exact Nat.le_of_lt hz, out, ep, vals_each eo, he⟩, rfl, ?_⟩
    refine q _ _ (bs.mergeSort (PySem.W.dataLe true encZ)) ?_ ?_ upd_same ?_ ?_ fun z hz => ?_
    · cases hh1 : H1 s2.heap.objs.size with
      | none => rfl
      | some o => rw [S _ _ hh1] at fr; cases fr
    · intro c o w
      rw [upd_ne (ne_of_none (S _ _ w) fr)]
      exact S _ _ w
    · rw [← e2]
      exact hm.map _
    · have hp := List.pairwise_mergeSort (le := PySem.W.dataLe true encZ) ?_ ?_ bs
      · exact (List.pairwise_map.mpr (hp.imp fun h => geZ h))
      · exact fun x y z h1 h2 => leZ_of.mpr (leZ_trans (leZ_of.mp h1) (leZ_of.mp h2))
      · intro x y
        rw [Bool.or_eq_true, leZ_of, leZ_of]
        exact leZ_total x y
    · rw [upd_ne (ne_of_none (at2 z (hm.mem_iff.mp hz)) fr)]
      exact at2 z (hm.mem_iff.mp hz)
theorem pe_sortZip {e e2 : Expr} {ta : TA} {p p2 q kp cp pos : Pos} {cc : Nat} (hr : Room 2 X.A) (hg : Gl X "sorted") (hm : X.mg "sorted" = none) (hg2 : Gl X "zip") (hm2 : X.mg "zip" = none) (ha : PA X [e, e2] ta) (hc : X.calm = true := by rfl)
    (hs : starEach [e, e2] X.env = (false, eval e X.env) :: starEach [e2] X.env := by rfl) (hpl : (backTo q (starEach [e2] X.env)).any (·.1) = false := by rfl) :
    PE X (.Call (.Name "sorted" p) [.Call (.Name "zip" p2) [e, e2] [] q] [⟨some "reverse", .Constant (.bool true) cc cp, kp⟩] pos) (tSortZip X.K ta) := by
  refine ⟨fun pins s σ H Q I h => ?_⟩
  refine wpAny_Call_Name_kw (ld_blt I hg hm bt_sorted19 ?_)
  refine PyProof.Rows.callWith_kw (PyProof.Rows.args_cons ?_) rfl rfl rfl rfl
  refine Call_ (ld_blt I hg2 hm2 PyProof.Rows.boot_zip (PyProof.Rows.callWith_type1 (thn (ha.run q pins s σ H _ I h) fun us s1 ⟨vs, H1, I1, r1, q1⟩ => ?_) hs hpl))
  obtain ⟨a, b, ns, ts, ex, hx, hy, hl, hz, q1⟩ := q1
  subst ex
  cases r1 with
  | cons r rr =>
    cases rr with
    | cons r' rr =>
      cases rr
      cases r
      cases r'
      refine zip_made I1 hx hy fun z TI TO i1 i2 s' D I' st hf _ => ?_
      refine PyProof.Rows.args_nil ?_
      show wpAny _ _ (evalAll [(do let v ← eval (.Constant (.bool true) cc cp) X.env; standAt pos; pure v)]) _ _ s'
      refine wpAny_evalAll_cons (wpAny_bind (Constant_bool ?_))
      refine wpAny_bind (wpAny_standAt (wpAny_pure (wpAny_evalAll_nil ?_)))
      exact srt_pairs hr I' (I'.ok.hd hc) D hf st hx hy hl hz fun l H' bs h1 h2 h3 h4 h5 h6 => q1 l H' bs h1 h2 h3 h4 h5 h6
end
end Far

namespace Far
open PySem PySem.Spec PyProof.Rows L2
/-! ### enumerate(t), t a tuple -/
theorem meets_enumT {v : Value} {o : Obj} {H : Heap → Prop} (B : Begins v o H) :
    Meets (Builtin.«enumerate.__new__» ⟨[.type "enumerate", v], []⟩) (fun _ R s => H s.heap ∧
      R (.ok (.ret (.ref (s.heap.push o).objs.size))) { s with heap := (s.heap.push o).push { cls := .type "enumerate", data := .fields #[.none, .bool false, .ref s.heap.objs.size, rawInt 0, .none, .none] } }) :=
  .of_wp fun prog w A R s h => by
    obtain ⟨hp, g, d, tk, os⟩ := s; obtain ⟨h1, h⟩ := h
    have hsub := sub_enumerate
    have q1 : ∀ {A' : Around} {E : Value → Shared → Prop} {Q : Value → Shared → Prop}, Q (.ref hp.objs.size) ⟨hp.push o, g, d, tk, os⟩ → wpAny (model prog w) A' (pyIter v) Q E ⟨hp, g, d, tk, os⟩ :=
      fun q => B.iter prog w _ _ ⟨hp, g, d, tk, os⟩ _ h1 q
    wp_walk using q1
    refine wpAny_stack_any fun st => wpAny_pure ?_
    split
    · rename_i c _ _ _ _ _
      cases (c == Value.type "enumerate")
      · wp_walk using q1
        exact ⟨_, rfl, h⟩
      · wp_walk using q1
        exact ⟨_, rfl, h⟩
    · wp_walk using q1
      exact ⟨_, rfl, h⟩
theorem enumT_begins {prog : Program} {w : World} {A : Around} {E : Value → Shared → Prop} {s : Shared} {v : Value} {o : Obj} {H : Heap → Prop} {Q : Value → Shared → Prop} (B : Begins v o H) (h1 : H s.heap)
    (h : ∀ h', IsEnum h' (s.heap.objs.size + 1) s.heap.objs.size 0 .none → h'.get? s.heap.objs.size = some o → h'.objs.size = s.heap.objs.size + 2 →
      (∀ b o, s.heap.get? b = some o → h'.get? b = some o) → Q (.ref (s.heap.objs.size + 1)) { s with heap := h' }) :
    wpAny (model prog w) A (call (.type "enumerate") [v]) Q E s := by
  refine callType_new F.called_enumerate (by decide) (F.typeCall_enumerate_1 _) (F.newCall_enumerate_1 _) (fun obj => F.args_object_init_2 obj _) F.entry_enumerate_new
    (meets_enumT B) ⟨h1, ?_⟩
  have hz : (s.heap.push o).objs.size = s.heap.objs.size + 1 := Heap.size_push ..
  show _ ∧ _
  rw [hz]
  have he : IsEnum ((s.heap.push o).push { cls := .type "enumerate", data := .fields #[.none, .bool false, .ref s.heap.objs.size, rawInt 0, .none, .none] }) (s.heap.objs.size + 1) s.heap.objs.size 0 .none := by
    have := Heap.get?_push_size (s.heap.push o) (o := { cls := .type "enumerate", data := .fields #[.none, .bool false, .ref s.heap.objs.size, rawInt 0, .none, .none] }) rfl
    rw [hz] at this; exact this
  refine ⟨⟨_, he, rfl⟩, h _ he (Heap.get?_push_of_some _ (Heap.get?_push_size _ B.free)) (by rw [Heap.size_push, hz]) fun b o x => Heap.get?_push_of_some _ (Heap.get?_push_of_some _ x)⟩
/-- the tuple at a, each item in a new pair with its number -/
def Itne (K : PySem.W.Frag) (a : Addr) : It :=
  ⟨fun i H => ∃ (xs : List V) (x : V), SqT K H a xs ∧ xs[i]? = some x,
   fun i H v H' => ∃ T x, v = .ref T ∧ H T = none ∧ H' = upd H T (.tup [.int (i : Nat), x]) ∧ ∀ xs, SqT K H a xs → xs[i]? = some x,
   fun i H => ∃ xs : List V, SqT K H a xs ∧ xs.length ≤ i⟩
theorem turn_enumT {P : Program} {w : World} {K : PySem.W.Frag} {elts : List Expr} {kk : Nat} {tpos : Pos} (a e it : Addr) :
    Turn P w K (.Tuple elts kk tpos) (Itne K a) [e, it] e (fun i h => (∃ o, IsEnum h e it ((i : Nat) : Int) o) ∧ h.IsTupleIter it a i ∧ e ≠ it ∧ a ≠ it) where
  mem := by simp
  obj := fun i h st b hb => by
    obtain ⟨⟨o', he⟩, ⟨o, ho, hc, hd⟩, _⟩ := st
    rcases (show b = e ∨ b = it by simpa using hb) with rfl | rfl
    · exact ⟨_, he, fun v q => nomatch q⟩
    · exact ⟨o, ho, fun v q => by rw [hd] at q; cases q⟩
  keep := fun i h h' ⟨⟨o, he⟩, hi, hne⟩ k => ⟨⟨o, k e (by simp) _ he⟩, hi.at fun o q => k it (by simp) o q, hne⟩
  item := by
    intro X hP hw hK hc i pins s σ H E I hf st hg
    subst hP hw hK
    obtain ⟨⟨old, he⟩, hit, hne, hna⟩ := st
    obtain ⟨xs, x, hq, hx⟩ := hg
    obtain ⟨its, rv, p, hz⟩ := I.tuple hq
    have p' : s.heap.IsTuple a its.toArray := p
    obtain ⟨u, hu, ru⟩ := rv.get hx
    have hel : e < s.heap.objs.size := Heap.lt_size he
    have hil : it < s.heap.objs.size := by
      obtain ⟨_, q, _⟩ := hit
      exact Heap.lt_size q
    have hea : e ∉ [it, a] := by
      intro hm
      rcases List.mem_cons.mp hm with z | z
      · exact hne z
      · have z := List.mem_singleton.mp z
        obtain ⟨o, m, q, _⟩ := p'
        rw [← z, he] at m
        cases m
        have q : Value.type "enumerate" = Value.type "tuple" := q
        exact absurd q (by decide)
    have hlt : i < its.toArray.size := by
      have := (List.getElem?_eq_some_iff.mp hu).1
      simpa using this
    refine wpAny_pyNext_enum_itemC (Draws.tuple (A := X.A.in1) (I.ok.hd hc) it a hna its.toArray) he ⟨hit, p'⟩ hlt hne hea fun x' h' tk hx' ho hst' hT hsz hk => ?_
    have ex : x' = u := by
      have : its.toArray[i]? = some u := by simpa using hu
      exact Option.some.inj (hx'.symm.trans this)
    subst ex
    refine ⟨_, rfl, wpAny_letOwnedTupleGo_enum (s := { s with heap := h', toks := tk + 1 }) ho fun h2 he2 sb => ?_⟩
    have hT2 : h2.get? s.heap.objs.size = some { cls := .type "tuple", data := .seq #[.int (i : Nat) tk, x'] } := (sb.2 _ (Nat.ne_of_gt hel)).trans hT
    have new : ObjOk X.prog X.w (upd H s.heap.objs.size (.tup [.int (i : Nat), x])) h2 s.heap.objs.size (.tup [.int (i : Nat), x]) :=
      ⟨by show 2 ≤ sizeLine; decide, [.int (i : Nat) tk, x'], .cons ⟨_, rfl⟩ (.cons ru .nil), ⟨_, hT2, rfl, _, rfl⟩⟩
    have I1 : Inv X pins σ (upd H s.heap.objs.size (.tup [.int (i : Nat), x])) { s with heap := h2, toks := tk + 1 } :=
      I.turnedNew (ch := [e, it]) (fun b ob hb q => (sb.2 b (fun z => hb (by simp [z]))).trans (hk b ob (fun z => hb (by simp [z])) (fun z => hb (by simp [z])) q)) hf (Nat.le_refl _) new
    refine ⟨.ref s.heap.objs.size, _, I1, rfl, ⟨_, x, rfl, I.hok.fresh (Nat.le_refl _), rfl, fun ys hy => by rw [I.tuple_inj hy hq]; exact hx⟩, ⟨⟨x', ?_⟩, hst'.1.at fun o q => (sb.2 it (Ne.symm hne)).trans q, hne, hna⟩, fun b hb => ?_⟩
    · rw [show ((i + 1 : Nat) : Int) = (i : Nat) + 1 by omega]
      exact he2
    · have hb' : b < s.heap.objs.size := by
        rcases (show b = e ∨ b = it by simpa using hb) with z | z
        · rw [z]; exact hel
        · rw [z]; exact hil
      rw [upd_ne (Nat.ne_of_lt hb')]
      exact (hf b hb).1
  done := by
    intro X hP hw hK hc i pins s σ H E I hf st hg
    subst hP hw hK
    obtain ⟨⟨old, he⟩, hit, hne, hna⟩ := st
    obtain ⟨xs, hq, hx⟩ := hg
    obtain ⟨its, rv, p, hz⟩ := I.tuple hq
    have p' : s.heap.IsTuple a its.toArray := p
    obtain ⟨f0, f1, f2, f3, f4, f5⟩ := hf it (by simp)
    have hl := rv.length
    have D : Draws X.prog X.w X.A.in1 it [it, a] i (fun _ _ => True) (fun j h => (h.IsTupleIter it a j ∧ h.IsTuple a its.toArray) ∧ j = i) :=
      { live := fun _ _ st => let ⟨o, ho, _⟩ := st.1.1; ⟨o, ho⟩
        frame := fun _ _ _ st hk => ⟨⟨st.1.1.at fun o e => hk it (by simp) o e, st.1.2.at fun o e => hk a (by simp) o e⟩, st.2⟩
        item := fun j _ _ _ hj st _ => absurd st.2 (by omega)
        done := fun s Q E st hE => wpAny_nextOf_tuple_end (I.ok.hd hc) st.1.1 st.1.2 (by simp; omega) hE }
    exact wpAny_pyNext_enum_endD D he ⟨⟨hit, p'⟩, rfl⟩ fun h' eb => ⟨rfl, I.turned (t' := s.toks) (fun b o hb q => eb b o hb q) f0 f1 f3 f4 f5⟩
  self := fun A i s Q E st h => by
    obtain ⟨⟨_, he⟩, _⟩ := st
    exact wpAny_pyIter_enum he h
def iEnumT (K : PySem.W.Frag) (ta : TA) : TI := fun σ H R => ta σ H fun vs H1 => ∃ a xs, vs = [.ref a] ∧ SqT K H1 a xs ∧ R (Itne K a) H1
theorem pi_enumT {X : Cx} {e : Expr} {ta : TA} {p pos tpos : Pos} {elts : List Expr} {kk : Nat} (hg : Gl X "enumerate") (hm : X.mg "enumerate" = none) (ha : PA X [e] ta) (hs : starEach [e] X.env = [(false, eval e X.env)] := by rfl) :
    PI X (.Tuple elts kk tpos) (.Call (.Name "enumerate" p) [e] [] pos) (iEnumT X.K ta) := by
  refine ⟨fun pins s σ H R I h => ?_⟩
  refine Call_ (ld_blt I hg hm boot_enumerate (PyProof.Rows.callWith_type1 (thn (ha.run pos pins s σ H _ I h) fun us s1 ⟨vs, H1, I1, r1, q1⟩ => ?_) hs rfl))
  obtain ⟨a, xs, ex, hq, q⟩ := q1
  subst ex
  cases r1 with
  | cons r rr =>
    cases rr
    cases r
    obtain ⟨its, rv, p', hz⟩ := I1.tuple hq
    have p2 : s1.heap.IsTuple a its.toArray := p'
    refine enumT_begins (begins_tuple a its.toArray) p2 fun h' he hit hsz hk => wpAny_pyIter_enum he ?_
    have I2 : Inv X pins σ H1 { s1 with heap := h' } := I1.kept (t' := s1.toks) hk
    have hal : a < s1.heap.objs.size := by
      obtain ⟨o, m, _⟩ := p2
      exact Heap.lt_size m
    refine ⟨s1.heap.objs.size + 1, [s1.heap.objs.size + 1, s1.heap.objs.size], _, _, H1, rfl, I2, turn_enumT a (s1.heap.objs.size + 1) s1.heap.objs.size, ⟨⟨.none, by simpa using he⟩, ⟨_, hit, rfl, rfl⟩, Nat.succ_ne_self _, Nat.ne_of_lt hal⟩, fun b hb => ?_, q⟩
    have hle : s1.heap.objs.size ≤ b := by
      rcases (show b = s1.heap.objs.size + 1 ∨ b = s1.heap.objs.size by simpa using hb) with z | z
      · rw [z]; exact Nat.le_add_right _ _
      · rw [z]; exact Nat.le_refl _
    exact I1.fpOk hle (I1.hok.fresh hle)
end Far

namespace Far
open PySem PySem.Spec PyProof.Rows PyProof.V L2
/-! ### max, min, sum of a tuple of whole numbers -/
section
variable {prog : Program} {w : World} {A : Around} {E : Value → Shared → Prop} {s : Shared} {t : Addr} {xs : Array (Int × Tok)}
theorem iter_intTup {Q : Value → Shared → Prop} (hl : s.heap.IsTuple t (intItems xs))
    (h : ∀ s₂ : Shared, s₂ = { s with heap := s.heap.push { cls := .type "tuple_iterator", data := .fields #[.ref t, .int 0 0] } } →
      (s₂.heap.IsTupleIter s.heap.objs.size t 0 ∧ s₂.heap.IsTuple t (intItems xs)) → (∀ b ∈ [s.heap.objs.size, t], b < s₂.heap.objs.size) → t ≠ s.heap.objs.size → Q (.ref s.heap.objs.size) s₂) : wpAny (model prog w) A (pyIter (.ref t)) Q E s := by
  have hlt : t < s.heap.objs.size := by obtain ⟨_, e, _⟩ := hl; exact Heap.lt_size e
  refine wpAny_pyIter_tuple hl (h _ rfl ⟨⟨_, Heap.get?_push_size _ rfl, rfl, rfl⟩, hl.at fun o e => Heap.get?_push_of_some _ e⟩ (fun b hb => ?_) (Nat.ne_of_lt hlt))
  show b < (s.heap.push _).objs.size
  rw [Heap.size_push]
  rcases List.mem_cons.mp hb with rfl | hb
  · exact Nat.lt_succ_self _
  · rcases List.mem_cons.mp hb with rfl | hb
    · exact Nat.lt_succ_of_lt hlt
    · cases hb
theorem old_keptT {s : Shared} {o : Obj} {h' : Heap} (k : ∀ b o', b ∉ [s.heap.objs.size] → (s.heap.push o).get? b = some o' → h'.get? b = some o') : ∀ b o', s.heap.get? b = some o' → h'.get? b = some o' :=
  fun b o' e => k b o' (fun hb => absurd (Heap.lt_size e) ((List.mem_singleton.mp hb) ▸ Nat.lt_irrefl _)) (Heap.get?_push_of_some _ e)
theorem max_intTup {Q : Value → Shared → Prop} (hh : A.handled = none) (hl : s.heap.IsTuple t (intItems xs)) (hne : 0 < xs.size)
    (h : ∀ v h' tk, (intItems xs)[argBest (fun i j => decide (numAt xs i > numAt xs j)) (xs.size - 1)]? = some v → (∀ b o, s.heap.get? b = some o → h'.get? b = some o) → Q v { s with heap := h', toks := tk }) :
    wpAny (model prog w) A (call (.builtin "max") [.ref t]) Q E s := by
  refine call_max_walk (iter_intTup hl fun s₂ e st hfp hlI => ?_)
  subst e
  refine ⟨_, _, _, _, _, _, _, rfl, Walks.tuple (A := A.in1) hh _ t hlI (intItems xs), st, hfp, by simpa [intItems] using hne, CmpOf.ints_gt (numAt xs) (fun _ _ => intItems_at), fun v h' tk hP hk => ?_⟩
  exact h v h' tk (by simpa [intItems] using hP) (old_keptT hk)
theorem min_intTup {Q : Value → Shared → Prop} (hh : A.handled = none) (hl : s.heap.IsTuple t (intItems xs)) (hne : 0 < xs.size)
    (h : ∀ v h' tk, (intItems xs)[argBest (fun i j => decide (numAt xs i < numAt xs j)) (xs.size - 1)]? = some v → (∀ b o, s.heap.get? b = some o → h'.get? b = some o) → Q v { s with heap := h', toks := tk }) :
    wpAny (model prog w) A (call (.builtin "min") [.ref t]) Q E s := by
  refine call_min_walk (iter_intTup hl fun s₂ e st hfp hlI => ?_)
  subst e
  refine ⟨_, _, _, _, _, _, _, rfl, Walks.tuple (A := A.in1) hh _ t hlI (intItems xs), st, hfp, by simpa [intItems] using hne, CmpOf.ints_lt (numAt xs) (fun _ _ => intItems_at), fun v h' tk hP hk => ?_⟩
  exact h v h' tk (by simpa [intItems] using hP) (old_keptT hk)
variable {its : List Value} {ns : List Int}
theorem maxT_raw {Q : Value → Shared → Prop} (hh : A.handled = none) (hl : s.heap.IsTuple t its.toArray) (hi : IntsAre its ns) (hne : 0 < ns.length)
    (h : ∀ h' tk M t', (∀ b o, s.heap.get? b = some o → h'.get? b = some o) → M ∈ ns → (∀ a, a ∈ ns → a ≤ M) → Q (.int M t') { s with heap := h', toks := tk }) : wpAny (model prog w) A (call (.builtin "max") [.ref t]) Q E s := by
  obtain ⟨xs, e⟩ := hi.allInts.items
  have hn : numsOf (intItems xs).toList = ns := by rw [← e]; exact hi.numsOf
  rw [nums_intItems] at hn
  subst hn
  rw [e] at hl
  have hsz : 0 < xs.size := by simpa using hne
  refine max_intTup hh hl hsz fun v h' tk hv hk => ?_
  obtain ⟨t, rfl⟩ := intItems_at hv
  obtain ⟨h1, h2⟩ := argBest_gt (numAt xs) (xs.size - 1)
  refine h h' tk _ t hk ?_ fun a ha => ?_
  · rw [numAt_eq]; exact PySem.getD_mem (by rw [List.length_map, Array.length_toList]; omega)
  · obtain ⟨j, hj, rfl⟩ := mem_getD ha
    rw [List.length_map, Array.length_toList] at hj
    rw [← numAt_eq]; exact h2 j (by omega)
theorem minT_raw {Q : Value → Shared → Prop} (hh : A.handled = none) (hl : s.heap.IsTuple t its.toArray) (hi : IntsAre its ns) (hne : 0 < ns.length)
    (h : ∀ h' tk M t', (∀ b o, s.heap.get? b = some o → h'.get? b = some o) → M ∈ ns → (∀ a, a ∈ ns → M ≤ a) → Q (.int M t') { s with heap := h', toks := tk }) : wpAny (model prog w) A (call (.builtin "min") [.ref t]) Q E s := by
  obtain ⟨xs, e⟩ := hi.allInts.items
  have hn : numsOf (intItems xs).toList = ns := by rw [← e]; exact hi.numsOf
  rw [nums_intItems] at hn
  subst hn
  rw [e] at hl
  have hsz : 0 < xs.size := by simpa using hne
  refine min_intTup hh hl hsz fun v h' tk hv hk => ?_
  obtain ⟨t, rfl⟩ := intItems_at hv
  obtain ⟨h1, h2⟩ := argBest_lt (numAt xs) (xs.size - 1)
  refine h h' tk _ t hk ?_ fun a ha => ?_
  · rw [numAt_eq]; exact PySem.getD_mem (by rw [List.length_map, Array.length_toList]; omega)
  · obtain ⟨j, hj, rfl⟩ := mem_getD ha
    rw [List.length_map, Array.length_toList] at hj
    rw [← numAt_eq]; exact h2 j (by omega)
theorem sumT_raw {Q : Value → Shared → Prop} (hh : A.handled = none) (hl : s.heap.IsTuple t its.toArray) (hi : IntsAre its ns)
    (h : ∀ h' tk t', (∀ b o, s.heap.get? b = some o → h'.get? b = some o) → Q (.int ns.sum t') { s with heap := h', toks := tk }) : wpAny (model prog w) A (call (.builtin "sum") [.ref t]) Q E s := by
  obtain ⟨xs, e⟩ := hi.allInts.items
  have hn : numsOf (intItems xs).toList = ns := by rw [← e]; exact hi.numsOf
  rw [nums_intItems] at hn
  rw [e] at hl
  refine PySem.W.ktm_sumG hh hl fun h' tk t' hk => ?_
  have := h h' tk t' hk
  rw [preSum_eq, List.take_of_length_le (by simp), hn]; exact this
end
section
variable {X : Cx}
def rMaxT (K : PySem.W.Frag) : List V → Hp → VK → Prop := fun vs H Q => ∃ (a : Addr) (ns : List Int), vs = [V.ref a] ∧ SqT K H a (ns.map V.int) ∧ 0 < ns.length ∧ ∀ m, m ∈ ns → (∀ y, y ∈ ns → y ≤ m) → Q (.int m) H
def rMinT (K : PySem.W.Frag) : List V → Hp → VK → Prop := fun vs H Q => ∃ (a : Addr) (ns : List Int), vs = [V.ref a] ∧ SqT K H a (ns.map V.int) ∧ 0 < ns.length ∧ ∀ m, m ∈ ns → (∀ y, y ∈ ns → m ≤ y) → Q (.int m) H
def rSumT (K : PySem.W.Frag) : List V → Hp → VK → Prop := fun vs H Q => ∃ (a : Addr) (ns : List Int), vs = [V.ref a] ∧ SqT K H a (ns.map V.int) ∧ Q (.int ns.sum) H
theorem cr_maxT {K : PySem.W.Frag} (hc : X.calm = true) (eK : X.K = K := by rfl) : CallR X (.builtin "max") (rMaxT K) := by
  subst eK
  intro pins s σ H vs us Q I r h
  obtain ⟨a, ns, rfl, hs, hne, q⟩ := h
  obtain ⟨its, rv, hl, _⟩ := I.tuple hs
  rw [Vals.ref1 r]
  exact maxT_raw (I.ok.hd hc) hl rv.ints hne fun h' tk m t' hk h1 h2 => ⟨.int _, H, I.kept hk, ⟨_, rfl⟩, q m h1 h2⟩
theorem cr_minT {K : PySem.W.Frag} (hc : X.calm = true) (eK : X.K = K := by rfl) : CallR X (.builtin "min") (rMinT K) := by
  subst eK
  intro pins s σ H vs us Q I r h
  obtain ⟨a, ns, rfl, hs, hne, q⟩ := h
  obtain ⟨its, rv, hl, _⟩ := I.tuple hs
  rw [Vals.ref1 r]
  exact minT_raw (I.ok.hd hc) hl rv.ints hne fun h' tk m t' hk h1 h2 => ⟨.int _, H, I.kept hk, ⟨_, rfl⟩, q m h1 h2⟩
theorem cr_sumT {K : PySem.W.Frag} (hc : X.calm = true) (eK : X.K = K := by rfl) : CallR X (.builtin "sum") (rSumT K) := by
  subst eK
  intro pins s σ H vs us Q I r h
  obtain ⟨a, ns, rfl, hs, q⟩ := h
  obtain ⟨its, rv, hl, _⟩ := I.tuple hs
  rw [Vals.ref1 r]
  exact sumT_raw (I.ok.hd hc) hl rv.ints fun h' tk t' hk => ⟨.int _, H, I.kept hk, ⟨_, rfl⟩, q⟩
theorem cr_maxL {K : PySem.W.Frag} (hc : X.calm = true) (eK : X.K = K := by rfl) : CallR X (.builtin "max") (rMax K) := by subst eK; exact cr_max hc
theorem cr_minL {K : PySem.W.Frag} (hc : X.calm = true) (eK : X.K = K := by rfl) : CallR X (.builtin "min") (rMin K) := by subst eK; exact cr_min hc
theorem cr_sumL {K : PySem.W.Frag} (hc : X.calm = true) (eK : X.K = K := by rfl) : CallR X (.builtin "sum") (rSum K) := by subst eK; exact cr_sum hc
end
end Far

namespace Far
open PySem PySem.Spec PyProof.Rows L2
/-! ### dicts with flat values: ==, != (all the same, or of another length) -/
theorem hits_flat {A : Around} {s : Shared} {ls : List (Key × V)} {vb : List (Key × Value)} (rb : KV ls vb) {ks : List (Key × V)} {va : List (Key × Value)}
    (ra : KV ks va) : (∀ p ∈ ks, valV ls p.1 = some p.2 ∧ flatB p.2 = true) → PySem.W.KeqHits A s vb va true := by
  unfold KV at ra
  induction ra with
  | nil => intro _; exact .nil
  | @cons p q ps qs h t k =>
    intro hp
    obtain ⟨h1, h2⟩ := h
    obtain ⟨e, f⟩ := hp p List.mem_cons_self
    have rr : RelO (some p.2) (valueAt vb p.1) := by rw [← e]; exact rb.val p.1
    obtain ⟨y, hy, ry⟩ := rr.some_of
    obtain ⟨key, v⟩ := q
    have h1' : p.1 = key := h1
    rw [h1'] at hy
    show PySem.W.KeqHits A s vb ((key, v) :: qs) (true && true)
    exact .hit hy (eqAt_same h2 ry f) (k fun p' hm => hp p' (List.mem_cons_of_mem _ hm))
def rDK (g : Bool → Bool) : V → V → Hp → VK → Prop := fun x y H Q => ∃ a b ks ls r, x = .ref a ∧ y = .ref b ∧ H a = some (.dK ks) ∧ H b = some (.dK ls) ∧
  ((r = true ∧ ks.length = ls.length ∧ ∀ p ∈ ks, valV ls p.1 = some p.2 ∧ flatB p.2 = true) ∨ (r = false ∧ ks.length ≠ ls.length)) ∧ Q (.bl (g r)) H
theorem op_eqDK {X : Cx} (hu : X.A.units + 64 < cLine) : OpR X (compareOp .Eq) (rDK id) := by
  intro pins s σ H x y v u Q I rx ry h
  obtain ⟨a, b, ks, ls, r, rfl, rfl, ha, hb, hc, q⟩ := h
  cases (show v = Value.ref a from rx)
  cases (show u = Value.ref b from ry)
  obtain ⟨_, ya, va, ra, da⟩ := (show ObjOk X.prog X.w H s.heap a (.dK ks) from I.hok a _ ha)
  obtain ⟨_, yb, vb, rb, db⟩ := (show ObjOk X.prog X.w H s.heap b (.dK ls) from I.hok b _ hb)
  refine PySem.W.keq_eq (knd := mixKind X.prog X.w) (r := true) ya yb da db (by omega) (fun e => ?_) ?_
  · rcases hc with ⟨_, _, h⟩ | ⟨_, n⟩
    · exact hits_flat rb ra h
    · exact absurd (by rw [ra.length, rb.length]; exact e) n
  · have e : (va.length == vb.length && true) = r := by
      rw [Bool.and_true, ← ra.length, ← rb.length]
      rcases hc with ⟨h1, h2, _⟩ | ⟨h1, h2⟩
      · rw [h1, h2]; simp
      · rw [h1]; simpa using h2
    rw [e]
    exact ⟨.bl r, H, I, rfl, q⟩
theorem op_neDK {X : Cx} (hu : X.A.units + 64 < cLine) : OpR X (compareOp .NotEq) (rDK not) := by
  intro pins s σ H x y v u Q I rx ry h
  obtain ⟨a, b, ks, ls, r, rfl, rfl, ha, hb, hc, q⟩ := h
  cases (show v = Value.ref a from rx)
  cases (show u = Value.ref b from ry)
  obtain ⟨_, ya, va, ra, da⟩ := (show ObjOk X.prog X.w H s.heap a (.dK ks) from I.hok a _ ha)
  obtain ⟨_, yb, vb, rb, db⟩ := (show ObjOk X.prog X.w H s.heap b (.dK ls) from I.hok b _ hb)
  refine PySem.W.keq_ne (knd := mixKind X.prog X.w) (r := true) ya yb da db (by omega) (fun e => ?_) ?_
  · rcases hc with ⟨_, _, h⟩ | ⟨_, n⟩
    · exact hits_flat rb ra h
    · exact absurd (by rw [ra.length, rb.length]; exact e) n
  · have e : (va.length == vb.length && true) = r := by
      rw [Bool.and_true, ← ra.length, ← rb.length]
      rcases hc with ⟨h1, h2, _⟩ | ⟨h1, h2⟩
      · rw [h1, h2]; simp
      · rw [h1]; simpa using h2
    rw [e]
    exact ⟨.bl (!r), H, I, rfl, q⟩
theorem bt_sorted : bootBuiltins ("sorted" : Str) = some (.builtin "sorted") := by decide +kernel
theorem bt_dict : bootBuiltins ("dict" : Str) = some (.type "dict") := by decide +kernel
theorem lay_ints : ∀ ls : List Int, PyData.canLayAll0 (ls.map PyData.int) = true
  | [] => rfl
  | x :: r => by
    show (PyData.canLay0 (.int x) && PyData.canLayAll0 (r.map PyData.int)) = true
    rw [lay_ints r]
    rfl
theorem dep_ints : ∀ ls : List Int, PyData.depthAll (ls.map PyData.int) ≤ 1
  | [] => Nat.zero_le _
  | x :: r => by
    show max (PyData.depth (.int x)) (PyData.depthAll (r.map PyData.int)) ≤ 1
    have ih := dep_ints r
    have e : PyData.depth (.int x) = 0 := rfl
    rw [e]
    omega
theorem shaped_intL (ls : List Int) : SeqAt.shaped (.list (ls.map PyData.int)) = true := by
  show (PyData.canLayAll0 (ls.map PyData.int) && decide (PyData.depthAll (ls.map PyData.int) + 1 ≤ 64)) = true
  have := dep_ints ls
  rw [lay_ints, decide_eq_true (by omega)]
  rfl
theorem eqv_ints : ∀ ls : List Int, (PyData.list (ls.map PyData.int)).eqv (.list (ls.map PyData.int)) = true
  | [] => by decide +kernel
  | x :: r => by
    have ih := eqv_ints r
    show ((x == x) && _) = true
    simp
    exact ih
theorem dpI (K : PySem.W.Frag) (H : Hp) : ∀ ls : List Int, DpAll K H (ls.map V.int) (ls.map PyData.int)
  | [] => .nil
  | x :: r => .cons (.int _) (dpI K H r)
/-! ### counting into a dict -/
def dd (s : List Int) : List Int := s.foldl (fun ks x => if x ∈ ks then ks else ks ++ [x]) []
theorem dd_snoc (s : List Int) (x : Int) : dd (s ++ [x]) = if x ∈ dd s then dd s else dd s ++ [x] := by
  unfold dd
  rw [List.foldl_append]
  rfl
def ikm (ks : List Int) (f : Int → V) : List (Key × V) := ks.map fun n => (Sum.inl n, f n)
theorem ikm_val (f : Int → V) (x : Int) : ∀ ks : List Int, valV (ikm ks f) (Sum.inl x) = if x ∈ ks then some (f x) else none
  | [] => rfl
  | a :: r => by
    show valV ((Sum.inl a, f a) :: ikm r f) (Sum.inl x) = _
    by_cases e : a = x
    · subst e
      rw [valV_pos rfl, if_pos (List.mem_cons_self ..)]
    · rw [valV_neg (fun z => e (Sum.inl.inj z)), ikm_val f x r]
      have : (x ∈ a :: r) ↔ x ∈ r := by
        rw [List.mem_cons]
        exact ⟨fun h => h.elim (fun z => absurd z.symm e) id, .inr⟩
      simp only [this]
theorem ikm_put (f : Int → V) (x : Int) (v : V) (ks : List Int) : putK (ikm ks f) (Sum.inl x) v = ikm (if x ∈ ks then ks else ks ++ [x]) (fun z => if z = x then v else f z) := by
  unfold putK
  rw [valV_any, ikm_val]
  by_cases h : x ∈ ks
  · rw [if_pos h, if_pos h, if_pos (by rfl)]
    unfold ikm
    rw [List.map_map]
    refine List.map_congr_left fun a _ => ?_
    show (if (Sum.inl a : Key) = Sum.inl x then ((Sum.inl a : Key), v) else (Sum.inl a, f a)) = (Sum.inl a, if a = x then v else f a)
    by_cases e : a = x
    · rw [if_pos (by rw [e]), if_pos e]
    · rw [if_neg (fun z => e (Sum.inl.inj z)), if_neg e]
  · rw [if_neg h, if_neg h, if_neg (by simp)]
    unfold ikm
    rw [List.map_append]
    refine congr (congrArg _ (List.map_congr_left fun a ha => ?_)) ?_
    · show (Sum.inl a, f a) = (Sum.inl a, if a = x then v else f a)
      rw [if_neg (fun (z : a = x) => h (z ▸ ha))]
    · show [(Sum.inl x, v)] = [(Sum.inl x, if x = x then v else f x)]
      rw [if_pos rfl]
theorem ikm_cong {f g : Int → V} {ks : List Int} (h : ∀ n ∈ ks, f n = g n) : ikm ks f = ikm ks g := List.map_congr_left fun a ha => by rw [h a ha]
theorem ikm_len (ks : List Int) (f : Int → V) : (ikm ks f).length = ks.length := by unfold ikm; rw [List.length_map]
theorem dd_len (s : List Int) : (dd s).length ≤ s.length := by
  have : ∀ r : List Int, ∀ t : List Int, t.reverse = r → (dd t).length ≤ t.length := by
    intro r
    induction r with
    | nil =>
      intro t e
      rw [List.reverse_eq_nil_iff.mp e]
      exact Nat.le_refl _
    | cons x r ih =>
      intro t e
      have e2 : t = r.reverse ++ [x] := by rw [← List.reverse_reverse t, e, List.reverse_cons]
      subst e2
      have := ih r.reverse (List.reverse_reverse r)
      rw [dd_snoc, List.length_append, List.length_singleton]
      split
      · omega
      · rw [List.length_append, List.length_singleton]
        omega
  exact this s.reverse s rfl
theorem dd_mem (s : List Int) : ∀ x, x ∈ dd s ↔ x ∈ s := by
  have : ∀ r : List Int, ∀ t : List Int, t.reverse = r → ∀ x, x ∈ dd t ↔ x ∈ t := by
    intro r
    induction r with
    | nil =>
      intro t e
      rw [List.reverse_eq_nil_iff.mp e]
      intro x
      exact Iff.rfl
    | cons y r ih =>
      intro t e
      have e2 : t = r.reverse ++ [y] := by rw [← List.reverse_reverse t, e, List.reverse_cons]
      subst e2
      intro x
      have := ih r.reverse (List.reverse_reverse r)
      rw [dd_snoc]
      split
      · rename_i h
        rw [this x, List.mem_append, List.mem_singleton]
        exact ⟨.inl, fun z => z.elim id fun z => by rw [z]; exact (this y).mp h⟩
      · rw [List.mem_append, List.mem_append, this x]
  exact this s.reverse s rfl
def cntF (s : List Int) (n : Int) : V := .int ((s.countP fun z => z == n : Nat) : Int)
/-- one more of x -/
theorem cnt_step (t : List Int) (x : Int) : putK (ikm (dd t) (cntF t)) (Sum.inl x) (.int (((t.countP fun z => z == x : Nat) : Int) + 1)) = ikm (dd (t ++ [x])) (cntF (t ++ [x])) := by
  rw [ikm_put, ← dd_snoc]
  refine ikm_cong fun n _ => ?_
  unfold cntF
  rw [List.countP_append]
  by_cases e : n = x
  · rw [if_pos e, e]
    simp
  · rw [if_neg e]
    have : ([x].countP fun z => z == n) = 0 := by
      rw [List.countP_cons]
      simp
      exact fun z => e z.symm
    rw [this, Nat.add_zero]
/-- all of x at once -/
theorem all_step (s t : List Int) (x : Int) : putK (ikm (dd t) (cntF s)) (Sum.inl x) (cntF s x) = ikm (dd (t ++ [x])) (cntF s) := by
  rw [ikm_put, ← dd_snoc]
  refine ikm_cong fun n _ => ?_
  by_cases e : n = x
  · rw [if_pos e, e]
  · rw [if_neg e]
theorem cnt_none {t : List Int} {x : Int} (h : x ∉ dd t) : (t.countP fun z => z == x) = 0 := by
  rw [List.countP_eq_zero]
  intro a ha z
  have : a = x := by simpa using z
  exact h ((dd_mem t x).mpr (this ▸ ha))
theorem sorted_one {a b : List Int} (p : a.Perm b) (ha : a.Pairwise (· ≤ ·)) (hb : b.Pairwise (· ≤ ·)) : a = b := List.Perm.eq_of_pairwise (fun x y _ _ h1 h2 => Int.le_antisymm h1 h2) ha hb p
end Far

namespace Far
open PySem PySem.Spec PyProof.Rows L2
theorem kv_vals : ∀ {kvs : List (Key × V)} {vs : List (Key × Value)}, KV kvs vs → Vals (kvs.map (·.2)) (vs.map (·.2))
  | [], [], .nil => .nil
  | _ :: _, _ :: _, .cons h t => .cons h.2 (kv_vals t)
/-- list(d.values()) -/
def tListVals (te : TE) : TE := fun σ H Q => te σ H fun x H1 => ∃ (d : Addr) (kvs : List (Key × V)), x = .ref d ∧ H1 d = some (.dK kvs) ∧ ∀ p, H1 p = none → Q (.ref p) (upd H1 p (.lst (kvs.map (·.2))))
theorem pe_listVals {X : Cx} {e : Expr} {te : TE} {p pos apos cpos : Pos} (hc : X.calm = true) (he : PE X e te) (hg : Gl X "list") (hm : X.mg "list" = none) (hv : bootBuiltins "list" = some (.type "list"))
    (hbase : attributeBase e "values" X.env (eval e X.env) = eval e X.env := by rfl) (hline : (apos.endLine == cpos.line) = true := by rfl)
    (hs : starEach [.Call (.Attribute e "values" apos) [] [] cpos] X.env = (false, eval (.Call (.Attribute e "values" apos) [] [] cpos) X.env) :: starEach [] X.env := by rfl) :
    PE X (.Call (.Name "list" p) [.Call (.Attribute e "values" apos) [] [] cpos] [] pos) (tListVals te) := by
  refine ⟨fun pins s σ H Q I hq => ?_⟩
  refine wpAny_Call_Name_kw (ld_blt I hg hm hv ?_)
  refine PyProof.Rows.callWith_type1 ?_ hs rfl
  rw [hs]
  show wpAny _ _ (spliced ((false, eval (.Call (.Attribute e "values" apos) [] [] cpos) X.env) :: backTo pos (starEach [] X.env))) _ _ s
  refine Calls.spliced_cons ?_
  refine wpAny_Call_method (T := "dict") (id := "dict.values") hbase rfl hline F.plainAttrs_dict F.slot_dict_values F.type_dict_values (thn (he.run pins s σ H _ I hq) fun u s1 ⟨x, H1, I1, rx, d, kvs, ex, hd, q⟩ => ?_)
  subst ex
  obtain rfl : u = Value.ref d := rx
  obtain ⟨hz, hs0, vs, kv, hdo⟩ := I1.hok d _ hd
  obtain ⟨ep, hat⟩ := hdo.dictAt
  have lk : kvs.length = vs.length := Paired.length kv
  have I2 : Inv X pins σ H1 { s1 with heap := s1.heap.push { cls := .type "dict_values", data := .fields #[.ref d] } } := I1.kept (t' := s1.toks) fun b ob q => Heap.get?_push_of_some _ q
  refine ⟨hdo.typeIs, hdo.mapOf.noDict, ?_⟩
  show wpAny _ _ (callWith cpos (.builtin "dict.values") [.ref d] [] []) _ X.xe s1
  refine method_meetsIn F.slot_dict_values F.entry_dict_values rfl (PySem.evalArgs_none ⟨rfl, hdo.typeIs, F.args_dict_values_1 _, _, meets_dict_values (mixKind X.prog X.w) d hs0, ⟨vs, hdo⟩, ?_⟩)
  refine Calls.spliced_nil ?_
  refine PySem.W.kdl_call (PySem.W.kdl_values (knd := mixKind X.prog X.w) (r := s1.heap.objs.size) (d := d) (kvs := vs) (ep := ep)) (I1.ok.hd hc) ⟨⟨_, Heap.get?_push_size _ rfl, rfl, rfl⟩, hat.push _⟩ (by omega) fun h' tk acc c hk hS hacc => ?_
  have ev : acc.toList = vs.map (·.2) := PySem.W.kdl_vals_eq acc.toList (by rw [Array.length_toList]; exact hacc.1) fun j v e => hacc.2 j v (by rw [← Array.getElem?_toList]; exact e)
  exact ⟨.ref _, _, I2.laid (t' := tk) hk (Nat.le_refl _) (show ObjOk X.prog X.w _ _ _ (.lst (kvs.map (·.2))) from ⟨by rw [List.length_map]; exact hz, acc.toList, c, by rw [ev]; exact kv_vals kv, by rw [Array.toArray_toList]; exact hS⟩), rfl, q _ (I2.hok.fresh (Nat.le_refl _))⟩
end Far

namespace Far
open PySem PySem.Spec PyProof.Rows L2
section
variable {X : Cx}
theorem countU {x : V} : ∀ {ys : List V} {us : List Value}, Vals ys us → ys.all flatV = true → us.countP (eqU x) = ys.countP (fun y => eqV y x)
  | _, _, .nil, _ => rfl
  | y :: ys, u :: us, .cons r t, f => by
    rw [List.all_cons, Bool.and_eq_true] at f
    rw [List.countP_cons, List.countP_cons, eqU_of r f.1, countU t f.2]
/-- list.count of a flat value in a list of flat values -/
def rCountV (K : PySem.W.Frag) : V → List V → Hp → VK → Prop := fun x xs H Q => ∃ (p : Addr) (ys : List V) (y : V), x = .ref p ∧ xs = [y] ∧ SqL K H p ys ∧ flatV y = true ∧ ys.all flatV = true ∧ Q (.int (ys.countP (fun z => eqV z y) : Nat)) H
theorem mt_countV {K : PySem.W.Frag} (eK : X.K = K := by rfl) : MtR X "list.count" (rCountV K) := by
  subst eK
  intro pins s σ H x xs v us Q I rx rxs h
  obtain ⟨p, ys, y, rfl, rfl, hs, fy, fys, q⟩ := h
  cases rx
  obtain ⟨u, rfl, ru⟩ := rxs.one
  obtain ⟨its, rv, ⟨⟨cl, di, da, so⟩, n, ho, hc, hdn, hd⟩, hl⟩ := I.list hs
  simp only at hc hd
  subst hc hd
  refine call_meets PySem.F.slot_list_count ⟨_, ho, rfl⟩ PySem.F.entry_list_count (PySem.F.args_list_count_2 _ _) (SeqAt.list_countAt p its.toArray n di so u (eqU y)) ⟨ho, fun z hz => mem_eqAt ru fy rv fys z (by simpa using hz), ?_⟩
  refine ⟨.int (ys.countP (fun z => eqV z y) : Nat), H, I.tok _, ⟨s.toks, ?_⟩, q⟩
  have e : its.toArray.toList.countP (eqU y) = ys.countP (fun z => eqV z y) := countU rv fys
  rw [e]

end
end Far

namespace Far
open PySem PySem.Spec PyProof.Rows L2
open C8 (pss_cut tCut)
open SX (S)
/-! ### rules with the written part named -/
theorem slTK {X : Cx} {K : PySem.W.Frag} (e : X.K = K := by rfl) : SlR X (rSlT K) := by
  subst e
  exact sl_tup
theorem slLK {X : Cx} {K : PySem.W.Frag} (e : X.K = K := by rfl) : SlR X (rSlL K) := by
  subst e
  exact sl_list
theorem pi_tupK {X : Cx} {K : PySem.W.Frag} {tg l : Expr} {tl : TE} (hl : PE X l tl) (e : X.K = K := by rfl) : PI X tg l (iTup K tl) := by
  subst e
  exact pi_tup hl
theorem pi_listK {X : Cx} {K : PySem.W.Frag} {tg l : Expr} {tl : TE} (hl : PE X l tl) (e : X.K = K := by rfl) : PI X tg l (iList K tl) := by
  subst e
  exact pi_list hl
theorem inK {X : Cx} {K : PySem.W.Frag} (e : X.K = K := by rfl) : OpR X (compareOp .In) (rIn K false) := by
  subst e
  exact op_in_seq
theorem notInK {X : Cx} {K : PySem.W.Frag} (e : X.K = K := by rfl) : OpR X (compareOp .NotIn) (rIn K true) := by
  subst e
  exact op_notIn_seq
theorem hd65 {A : Around} {k : Nat} (hr : Room k A) (h : 2 ≤ k) : A.units + 65 < cLine := by
  have := hr.un
  omega
end Far

namespace Far
open PySem PySem.Spec PyProof.Rows L2
open C8 (pss_cut tCut)
open SX (S)
/-! ### walks over tuples and lists, whatever a turn does -/
theorem walk_tup {K : PySem.W.Frag} {a : Addr} {xs : List V} {B : (Hp → Prop) → V → Hp → Prop} {H0 : Hp} {Qd : Hp → Prop} (Pv : Nat → Hp → Prop) (h0 : Pv 0 H0) (hl : ∀ i H, i ≤ xs.length → Pv i H → SqT K H a xs) (hs : ∀ i x H, xs[i]? = some x → Pv i H → B (Pv (i + 1)) x H) (hd : ∀ H, Pv xs.length H → Qd H) :
    ∃ W : Nat → Nat → Hp → Prop, (∃ m, W 0 m H0) ∧ ∀ i m H, W i m H → ((Itt K a).stop i H ∧ Qd H) ∨ ((Itt K a).go i H ∧ ∃ Nx : Hp → Prop, (∀ H', Nx H' → ∃ m', m' < m ∧ W (i + 1) m' H') ∧ ∀ x H', (Itt K a).yld i H x H' → B Nx x H') := by
  refine ⟨fun i m H => m = xs.length - i ∧ i ≤ xs.length ∧ Pv i H, ⟨xs.length, by simp, Nat.zero_le _, h0⟩, ?_⟩
  rintro i m H ⟨rfl, hi, p⟩
  have q := hl i H hi p
  by_cases hlt : i < xs.length
  · refine .inr ⟨⟨xs, xs[i], q, by simp [hlt]⟩, Pv (i + 1), fun H' p' => ⟨xs.length - (i + 1), by omega, rfl, hlt, p'⟩, fun x H' y => ?_⟩
    obtain ⟨e, y⟩ := y
    subst e
    exact hs i x _ (y xs q) p
  · have e : i = xs.length := by omega
    subst e
    exact .inl ⟨⟨xs, q, Nat.le_refl _⟩, hd H p⟩
theorem at_name {pl : List Nm} {i : Nat} {v : V} (hi : ((pl.map S).map V.str)[i]? = some v) : ∃ x, pl[i]? = some x ∧ x ∈ pl ∧ v = .str (S x) ∧ pl.take (i + 1) = pl.take i ++ [x] := by
  rw [List.getElem?_map, List.getElem?_map] at hi
  cases el : pl[i]? with
  | none => rw [el] at hi; cases hi
  | some x => rw [el] at hi; exact ⟨x, rfl, List.mem_of_getElem? el, (Option.some.inj hi).symm, by rw [List.take_add_one, el]; rfl⟩
theorem tie_at {H : Hp} {i : Nat} {vs : List V} {ts : List Tie} {v : V} (h : DtAll H vs (ts.map tieD)) (hi : vs[i]? = some v) : ∃ (t : Tie) (p : Addr), ts[i]? = some t ∧ v = .ref p ∧ H p = some (.tup [.str (S t.1), .str (S t.2.1), .int t.2.2]) := by
  obtain ⟨d, hd, hv⟩ := DtAll.get h hi
  rw [List.getElem?_map] at hd
  cases e : ts[i]? with
  | none =>
    rw [e] at hd
    cases hd
  | some t =>
    rw [e] at hd
    have ed : d = tieD t := (Option.some.inj hd).symm
    subst ed
    obtain ⟨p, rfl, hp⟩ := dt_tie hv
    exact ⟨t, p, rfl, rfl, hp⟩
/-! ### how many ties a place has -/
def deg (ts : List Tie) (x : Nm) : Nat := (ts.map (·.1)).countP (fun z => decide (z = x)) + (ts.map (·.2.1)).countP (fun z => decide (z = x))
def ends (ts : List Tie) : List Nm := ts.flatMap fun t => [t.1, t.2.1]
theorem ends_deg (x : Nm) : ∀ ts : List Tie, (ends ts).countP (fun z => decide (z = x)) = deg ts x
  | [] => rfl
  | t :: r => by
    have ih := ends_deg x r
    unfold ends deg at *
    rw [List.flatMap_cons, List.countP_append, ih]
    simp only [List.map_cons, List.countP_cons, List.countP_nil]
    omega
def leavesOf (pl : List Nm) (ts : List Tie) : List Nm := pl.filter fun x => decide (deg ts x = 1)
theorem eqV_S (a b : Nm) : eqV (.str (S a)) (.str (S b)) = decide (a = b) := by
  show (S a == S b) = _
  exact SX.S_beq_eq
theorem count_S (x : Nm) : ∀ ls : List Nm, (((ls.map S).map V.str).countP fun z => eqV z (.str (S x))) = ls.countP fun z => decide (z = x)
  | [] => rfl
  | l :: r => by
    rw [List.map_cons, List.map_cons, List.countP_cons, List.countP_cons, count_S x r, eqV_S]
structure TxtK0 (mg : Str → Option Value) : Prop where
  tuple : mg "tuple" = none
  enumerate : mg "enumerate" = none
abbrev s_leaves_of : Stmt := topS 10
abbrev N_leaves_of : List Str := ["tree", "places", "ties", "ends", "tie", "end", "place"]
theorem sc_leaves_of : FnScope N_leaves_of ["tree"] (defScope s_leaves_of) := ⟨rfl, rfl, rfl, by decide +kernel, rfl, by decide +kernel, by decide +kernel⟩
section
variable {P : Program} {w : World} {K : PySem.W.Frag} {mg : Str → Option Value} {base : Heap}
def spLeaves : Sp := fun vs H Q _ => ∃ (v : V) (pl : List Nm) (ts : List Tie), vs = [v] ∧ Dt H v (treeD pl ts) ∧ pl.length ≤ 1000 ∧ ts.length ≤ 1000 ∧ ∀ (H' : Hp) (q : Addr), Same H H' → H q = none → H' q = some (.tup (((leavesOf pl ts).map S).map V.str)) → Q (.ref q) H'
theorem ok_leaves_of {f : Addr} {fd : FuncData} (F : Fun K "leaves_of" "leaves_of" s_leaves_of f fd) (T : TxtK0 mg) : FnOk P w K mg base CX0 1 f fd ["tree"] spLeaves := by
  refine F.ok sc_leaves_of (fun vs H Q E h => ?_) (fun cdv A outer s H vs Q E hr h => ?_)
  · obtain ⟨v, pl, ts, rfl, _⟩ := h
    rfl
  · obtain ⟨v, pl, ts, rfl, hd, l1, l2, q⟩ := h
    obtain ⟨t, a, b, vs, rfl, ht, ha, hb, hA⟩ := dt_tree hd
    have vl : vs.length = ts.length := by
      have := DtAll.len hA
      rwa [List.length_map] at this
    refine ⟨_, (pss_cons (ps_asg (pv 0) (pg_tup rfl (pgs_cons (pg_name (i := 1) sc_leaves_of.nd rfl (.inl rfl)) (pgs_cons (pg_name (i := 2) sc_leaves_of.nd rfl (.inl rfl)) pgs_nil))))
      (pss_cons (ps_set (i := 3) sc_leaves_of.nd rfl (.inr rfl) (pe_lc2 (own := [("tie", 4), ("end", 5)]) (vs1 := [5]) (g := gName 4) (g1 := gName 5) (tt := tYes) (tt1 := tYes) rfl sc_leaves_of.nd (pi_tup (pv 2)) (blkOk_by (N := N_leaves_of) (sc := defScope s_leaves_of) (by decide +kernel)) (by decide) (fun _ _ _ _ _ => (pg_name (i := 4) sc_leaves_of.nd rfl (.inl rfl))) (fun _ _ _ _ _ => pts_nil) (fun _ _ _ _ _ => (pi_tupK (K := K) (pe_slice (slTK (K := K)) (pv 4) po_none (po_some pe_int)))) (fun _ _ _ _ _ => (pg_name (i := 5) sc_leaves_of.nd rfl (.inl rfl))) (fun _ _ _ _ _ => pts_nil) (fun _ _ _ _ _ => (pv 5))))
      (pss_one (ps_ret (pe_tupleOf (by rfl) T.tuple (pe_lc (own := [("place", 6)]) (g := gName 6)  rfl sc_leaves_of.nd (pi_tup (pv 1)) (blkOk_by (N := N_leaves_of) (sc := defScope s_leaves_of) (by decide +kernel)) (fun _ _ _ _ _ => pg_name (i := 6) sc_leaves_of.nd rfl (Or.inl rfl)) (fun _ _ _ _ _ => pts_one (pt_cmpR op_eq (show PE _ _ (tBM K "list" (rCountV K) _ _) from pe_bm PySem.F.plainAttrs_list PySem.F.slot_list_count PySem.F.type_list_count (mt_countV (K := K)) (pv 3) (pa_cons (pv 6) pa_nil)) pe_int (nomark _))) (fun _ _ _ _ _ => (pv 6)))))))), ?_⟩
    refine ⟨_, rfl, t, _, rfl, SqT.of ht, rfl, _, _, rfl, _, _, rfl, rfl, ?_⟩
    refine ⟨_, rfl, b, rfl, ⟨_, SqT.of hb⟩, fun D nD => ?_⟩
    refine walk_tup (K := K) (a := b) (xs := vs) (fun i H' => Same H H' ∧ H' D = some (.lst (((ends (ts.take i)).map S).map V.str))) ⟨same_new (Same.refl H) nD, upd_same⟩ (fun i H' _ hP => SqT.of (hP.1 _ _ hb)) (fun i v H' hi hP => ?_) (fun H' hP => ?_)
    · obtain ⟨SM, hD⟩ := hP
      obtain ⟨t3, p3, ht3, rfl, hp3⟩ := tie_at (DtAll.keep (TK.of SM) hA) hi
      have il := (List.getElem?_eq_some_iff.mp ht3).1
      have et : ts.take (i + 1) = ts.take i ++ [t3] := by rw [List.take_add_one, ht3]; rfl
      refine ⟨rfl, _, rfl, 2, rfl, p3, _, rfl, SqT.of hp3, (fun z => nomatch z.2), fun e ne => ?_⟩
      have De : D ≠ e := ne_of_none hD ne
      have he : (upd H' e (.tup [.str (S t3.1), .str (S t3.2.1)])) e = some (.tup [.str (S t3.1), .str (S t3.2.1)]) := upd_same
      have SM2 := same_new (o := .tup [.str (S t3.1), .str (S t3.2.1)]) SM ne
      have hD2 : (upd H' e (.tup [.str (S t3.1), .str (S t3.2.1)])) D = some (.lst (((ends (ts.take i)).map S).map V.str)) := by
        rw [upd_ne De]
        exact hD
      have ecut : cutV [V.str (S t3.1), .str (S t3.2.1), .int t3.2.2] none (some 2) = [.str (S t3.1), .str (S t3.2.1)] := rfl
      rw [ecut]
      generalize upd H' e (.tup [.str (S t3.1), .str (S t3.2.1)]) = H2 at he SM2 hD2
      have ll : (ends (ts.take i)).length ≤ 2 * i := by
        unfold ends
        rw [List.length_flatMap]
        have : ((ts.take i).map fun t => [t.1, t.2.1].length).sum = 2 * (ts.take i).length := by
          generalize ts.take i = ys
          induction ys with
          | nil => rfl
          | cons y r ih => simp at *; omega
        rw [this, List.length_take]
        omega
      refine ⟨e, rfl, ⟨_, SqT.of he⟩, ?_⟩
      refine walk_tup (K := K) (a := e) (xs := (([t3.1, t3.2.1] : List Nm).map S).map V.str) (fun j H' => H' e = some (.tup [.str (S t3.1), .str (S t3.2.1)]) ∧ Same H H' ∧ H' D = some (.lst (((ends (ts.take i) ++ ([t3.1, t3.2.1] : List Nm).take j).map S).map V.str))) ⟨he, SM2, by simpa using hD2⟩ (fun j H' _ hP => SqT.of hP.1) (fun j v H' hj hP => ?_) (fun H' hP => ?_)
      · obtain ⟨he', SM3, hD3⟩ := hP
        obtain ⟨x, hx, mx, rfl, ex⟩ := at_name hj
        have jl : j < 2 := (List.getElem?_eq_some_iff.mp hx).1
        refine ⟨rfl, _, rfl, _, hD3, by rw [List.length_map, List.length_map, List.length_append, List.length_take]; exact sz_lt (by omega), by rw [upd_ne De.symm]; exact he', same_put SM3 nD, ?_⟩
        rw [upd_same, ex, List.map_append, List.map_append, List.map_append, List.map_append, List.map_append, List.map_append]
        simp
      · obtain ⟨he', SM3, hD3⟩ := hP
        refine ⟨SM3, ?_⟩
        rw [et]
        unfold ends at *
        rw [List.flatMap_append]
        simpa using hD3
    obtain ⟨SM, hD⟩ := hP
    rw [List.take_of_length_le (by omega)] at hD
    have el : (ends ts).length ≤ 2000 := by
      unfold ends
      rw [List.length_flatMap]
      have : (ts.map fun t => [t.1, t.2.1].length).sum = 2 * ts.length := by
        clear hD SM
        generalize ts = ys
        induction ys with
        | nil => rfl
        | cons y r ih => simp at *; omega
      rw [this]
      omega
    refine ⟨_, rfl, a, rfl, ⟨_, (ha.same SM).sq⟩, fun G nG => ?_⟩
    have GD : D ≠ G := ne_of_none hD nG
    refine lc_tup (K := K) (a := a) (xs := (pl.map S).map V.str) (fun i H'' => Same H H'' ∧ H'' D = some (.lst (((ends ts).map S).map V.str)) ∧ H'' G = some (.lst (((leavesOf (pl.take i) ts).map S).map V.str))) ⟨same_new SM nG, by rw [upd_ne GD]; exact hD, upd_same⟩ (fun i H'' _ hP => (ha.same hP.1).sq) (fun i v H'' hi hP => ?_) (fun H'' hP => ?_)
    · obtain ⟨S2, hD2, hG⟩ := hP
      obtain ⟨x, hx, mx, rfl, ex⟩ := at_name hi
      have il := (List.getElem?_eq_some_iff.mp hx).1
      refine ⟨rfl, _, rfl, .inl ⟨rfl, _, SqL.of hD2⟩, _, rfl, D, _, _, rfl, rfl, SqL.of hD2, rfl, flat_strs _, rfl, _, rfl, ?_⟩
      rw [count_S, ends_deg]
      have gl : (leavesOf (pl.take i) ts).length ≤ 1000 := by
        unfold leavesOf
        have := List.length_filter_le (fun x => decide (deg ts x = 1)) (pl.take i)
        rw [List.length_take] at this
        omega
      by_cases c : deg ts x = 1
      · rw [c]
        refine iteT ⟨_, rfl, _, hG, by rw [List.length_map, List.length_map]; exact sz_lt (by omega), same_put S2 (SM.free nG), by rw [upd_ne GD]; exact hD2, ?_⟩
        rw [upd_same, ex]
        unfold leavesOf
        rw [List.filter_append, List.filter_cons_of_pos (by simp [c]), List.map_append, List.map_append]
        rfl
      · rw [decide_eq_false (fun z => c (by have := V.int.inj z; omega))]
        refine iteF ⟨S2, hD2, ?_⟩
        rw [ex]
        unfold leavesOf at *
        rw [List.filter_append, List.filter_cons_of_neg (by simp [c])]
        simpa using hG
    · obtain ⟨S2, hD2, hG⟩ := hP
      rw [List.length_map, List.length_map, List.take_length] at hG
      exact .inl ⟨G, _, rfl, SqL.of hG, fun q1 nq1 => q _ q1 (same_new S2 nq1) (S2.free nq1) upd_same⟩
end
end Far

namespace Far
open PySem PySem.Spec PyProof.Rows L2
open C8 (pss_cut tCut)
open SX (S)
def but (pl : List Nm) (x : Nm) : List Nm := pl.filter fun y => !decide (y = x)
abbrev s_part_of : Stmt := topS 13
abbrev N_part_of : List Str := ["tree", "places", "kept", "place", "tie"]
theorem sc_part_of : FnScope N_part_of ["tree", "places"] (defScope s_part_of) := ⟨rfl, rfl, rfl, by decide +kernel, rfl, by decide +kernel, by decide +kernel⟩
section
variable {P : Program} {w : World} {K : PySem.W.Frag} {mg : Str → Option Value} {base : Heap}
def keptP (pl ps : List Nm) : List Nm := pl.filter fun x => decide (x ∈ ps)
def keptT (kl : List Nm) (ts : List Tie) : List Tie := ts.filter fun t => decide (t.1 ∈ kl) && decide (t.2.1 ∈ kl)
def spPart : Sp := fun vs H Q _ => ∃ (v : V) (p : Addr) (pl ps : List Nm) (ts : List Tie), vs = [v, .ref p] ∧ Dt H v (treeD pl ts) ∧ H p = some (.lst ((ps.map S).map V.str)) ∧ pl.length ≤ 1000 ∧ ts.length ≤ 1000 ∧ ∀ (H' : Hp) (r : Addr), Same H H' → H r = none → Dt H' (.ref r) (treeD (keptP pl ps) (keptT (keptP pl ps) ts)) → Q (.ref r) H'
theorem ok_part_of {f : Addr} {fd : FuncData} (F : Fun K "part_of" "part_of" s_part_of f fd) (T : TxtK0 mg) : FnOk P w K mg base CX0 1 f fd ["tree", "places"] spPart := by
  refine F.ok sc_part_of (fun vs H Q E h => ?_) (fun cdv A outer s H vs Q E hr h => ?_)
  · obtain ⟨v, p, pl, ps, ts, rfl, _⟩ := h
    rfl
  · obtain ⟨v, p, pl, ps, ts, rfl, hd, hp, l1, l2, q⟩ := h
    obtain ⟨t, a, b, vs, rfl, ht, ha, hb, hA⟩ := dt_tree hd
    have vl : vs.length = ts.length := by
      have := DtAll.len hA
      rwa [List.length_map] at this
    refine ⟨_, (pss_cons (ps_set (i := 2) sc_part_of.nd rfl (.inr rfl) (pe_tupleOf (by rfl) T.tuple (pe_lc (own := [("place", 3)]) (g := gName 3)  rfl sc_part_of.nd (pi_tup (pe_ix ix_tup (pv 0) pe_int (fun _ _ => rfl))) (blkOk_by (N := N_part_of) (sc := defScope s_part_of) (by decide +kernel)) (fun _ _ _ _ _ => pg_name (i := 3) sc_part_of.nd rfl (Or.inl rfl)) (fun _ _ _ _ _ => pts_one (pt_cmpR (inK (K := K)) (pv 3) (pv 1) rfl)) (fun _ _ _ _ _ => (pv 3)))))
      (pss_one (ps_ret (pe_tup (pa_cons (pv 2) (pa_cons (pe_tupleOf (by rfl) T.tuple (pe_lc (own := [("tie", 4)]) (g := gName 4)  rfl sc_part_of.nd (pi_tup (pe_ix ix_tup (pv 0) pe_int (fun _ _ => rfl))) (blkOk_by (N := N_part_of) (sc := defScope s_part_of) (by decide +kernel)) (fun _ _ _ _ _ => pg_name (i := 4) sc_part_of.nd rfl (Or.inl rfl)) (fun _ _ _ _ _ => pts_one (PW.pt (pw_and (pt_cmpR (inK (K := K)) (pe_ix (ixt (K := K)) (pv 4) pe_int (fun _ _ => rfl)) (pv 2) rfl) (pw_and1 (pt_cmpR (inK (K := K)) (pe_ix (ixt (K := K)) (pv 4) pe_int (fun _ _ => rfl)) (pv 2) rfl))))) (fun _ _ _ _ _ => (pv 4)))) pa_nil)))))), ?_⟩
    refine ⟨_, rfl, t, _, 0, .ref a, rfl, rfl, SqT.of ht, atI_nat (j := 0) rfl, a, rfl, ⟨_, ha.sq⟩, fun D nD => ?_⟩
    refine lc_tup (K := K) (a := a) (xs := (pl.map S).map V.str) (fun i H' => Same H H' ∧ H' D = some (.lst (((keptP (pl.take i) ps).map S).map V.str))) ⟨same_new (Same.refl H) nD, upd_same⟩ (fun i H' _ hP => (ha.same hP.1).sq) (fun i v H' hi hP => ?_) (fun H' hP => ?_)
    · obtain ⟨SM, hD⟩ := hP
      obtain ⟨x, hx, mx, rfl, ex⟩ := at_name hi
      have il := (List.getElem?_eq_some_iff.mp hx).1
      refine ⟨rfl, _, rfl, _, rfl, p, _, rfl, .inl (SqL.of (SM _ _ hp)), rfl, flat_strs ps, _, rfl, ?_⟩
      rw [inV_strs]
      have gl : (keptP (pl.take i) ps).length ≤ 1000 := by
        unfold keptP
        have := List.length_filter_le (fun x => decide (x ∈ ps)) (pl.take i)
        rw [List.length_take] at this
        omega
      by_cases c : x ∈ ps
      · rw [decide_eq_true c]
        refine iteT ⟨_, rfl, _, hD, by rw [List.length_map, List.length_map]; exact sz_lt (by omega), same_put SM nD, ?_⟩
        rw [upd_same, ex]
        unfold keptP
        rw [List.filter_append, List.filter_cons_of_pos (by simp [c]), List.map_append, List.map_append]
        rfl
      · rw [decide_eq_false c]
        refine iteF ⟨SM, ?_⟩
        rw [ex]
        unfold keptP at *
        rw [List.filter_append, List.filter_cons_of_neg (by simp [c])]
        simpa using hD
    obtain ⟨SM, hD⟩ := hP
    rw [List.length_map, List.length_map, List.take_length] at hD
    refine .inl ⟨D, _, rfl, SqL.of hD, fun k nk => ?_⟩
    have SM2 := same_new (o := .tup (((keptP pl ps).map S).map V.str)) SM nk
    have hk : (upd H' k (.tup (((keptP pl ps).map S).map V.str))) k = some (.tup (((keptP pl ps).map S).map V.str)) := upd_same
    generalize upd H' k (.tup (((keptP pl ps).map S).map V.str)) = H2 at SM2 hk
    refine ⟨_, rfl, _, rfl, t, _, 1, .ref b, rfl, rfl, SqT.of (SM2 _ _ ht), atI_nat (j := 1) rfl, b, rfl, ⟨_, SqT.of (SM2 _ _ hb)⟩, fun G nG => ?_⟩
    refine lc_tup (K := K) (a := b) (xs := vs) (fun i H' => Same H H' ∧ H' k = some (.tup (((keptP pl ps).map S).map V.str)) ∧ ∃ ws, H' G = some (.lst ws) ∧ DtAll H' ws ((keptT (keptP pl ps) (ts.take i)).map tieD)) ⟨same_new SM2 nG, by rw [upd_ne (ne_of_none hk nG)]; exact hk, [], upd_same, .nil⟩ (fun i H' _ hP => SqT.of (hP.1 _ _ hb)) (fun i v H' hi hP => ?_) (fun H' hP => ?_)
    · obtain ⟨S3, hk3, ws, hG, hW⟩ := hP
      obtain ⟨t3, p3, ht3, rfl, hp3⟩ := tie_at (DtAll.keep (TK.of S3) hA) hi
      have il := (List.getElem?_eq_some_iff.mp ht3).1
      have et : ts.take (i + 1) = ts.take i ++ [t3] := by rw [List.take_add_one, ht3]; rfl
      have wl : ws.length ≤ 1000 := by
        have := DtAll.len hW
        rw [this, List.length_map]
        unfold keptT
        have := List.length_filter_le (fun t => decide (t.1 ∈ keptP pl ps) && decide (t.2.1 ∈ keptP pl ps)) (ts.take i)
        rw [List.length_take] at this
        omega
      have no : ∀ z : (decide (t3.1 ∈ keptP pl ps) && decide (t3.2.1 ∈ keptP pl ps)) = false, keptT (keptP pl ps) (ts.take (i + 1)) = keptT (keptP pl ps) (ts.take i) := fun z => by
        rw [et]
        unfold keptT
        rw [List.filter_append, List.filter_cons_of_neg (by rw [z]; decide)]
        simp
      refine ⟨rfl, _, rfl, p3, _, 0, _, rfl, rfl, SqT.of hp3, atI_nat (j := 0) rfl, _, rfl, k, _, rfl, .inr (SqT.of hk3), rfl, flat_strs _, _, rfl, ?_⟩
      rw [inV_strs]
      by_cases c1 : t3.1 ∈ keptP pl ps
      · rw [decide_eq_true c1]
        refine iteT ?_
        refine ⟨_, rfl, p3, _, 1, _, rfl, rfl, SqT.of hp3, atI_nat (j := 1) rfl, _, rfl, k, _, rfl, .inr (SqT.of hk3), rfl, flat_strs _, _, rfl, ?_⟩
        rw [inV_strs]
        by_cases c2 : t3.2.1 ∈ keptP pl ps
        · rw [decide_eq_true c2]
          refine iteT ⟨_, rfl, _, hG, sz_lt (by omega), same_put S3 (SM2.free nG), by rw [upd_ne (ne_of hk3 hG (by intro z; cases z))]; exact hk3, ws ++ [.ref p3], upd_same, ?_⟩
          have tk := TK.mut (o := .lst (ws ++ [.ref p3])) hG
          rw [et]
          unfold keptT at *
          rw [List.filter_append, List.filter_cons_of_pos (by simp [c1, c2]), List.map_append]
          exact DtAll.app (DtAll.keep tk hW) (.cons (.tup (tk.tup _ _ hp3) (.cons (.str _) (.cons (.str _) (.cons (.int _) .nil)))) .nil)
        · rw [decide_eq_false c2]
          refine iteF ⟨S3, hk3, ws, hG, ?_⟩
          rw [no (by simp [c2])]
          exact hW
      · rw [decide_eq_false c1]
        refine iteF (iteF ⟨S3, hk3, ws, hG, ?_⟩)
        rw [no (by simp [c1])]
        exact hW
    · obtain ⟨S3, hk3, ws, hG, hW⟩ := hP
      rw [List.take_of_length_le (by omega)] at hW
      refine .inl ⟨G, _, rfl, SqL.of hG, fun q2 nq2 => ⟨(by show 2 ≤ sizeLine; decide), fun r nr => ?_⟩⟩
      have tk2 : TK H' (upd (upd H' q2 (.tup ws)) r (.tup [.ref k, .ref q2])) := (TK.new nq2).trans (TK.new nr)
      have tk3 : TK (upd H' q2 (.tup ws)) (upd (upd H' q2 (.tup ws)) r (.tup [.ref k, .ref q2])) := TK.new nr
      have S4 := same_new (o := .tup ws) S3 nq2
      exact q _ r (same_new S4 nr) (S4.free nr) (.tup upd_same (.cons (.tup (tk2.tup _ _ hk3) (dt_strs _ _)) (.cons (.tup (tk3.tup _ _ upd_same) (DtAll.keep tk2 hW)) .nil)))
end
def rem (ts : List Tie) (x : Nm) : List Tie := ts.filter fun t => !decide (t.1 = x) && !decide (t.2.1 = x)
theorem deg_app (x : Nm) (ts us : List Tie) : deg (ts ++ us) x = deg ts x + deg us x := by
  unfold deg
  rw [List.map_append, List.map_append, List.countP_append, List.countP_append]
  omega
theorem deg_perm {x : Nm} {ts us : List Tie} (p : ts.Perm us) : deg ts x = deg us x := by
  unfold deg
  rw [(p.map (·.1)).countP_eq, (p.map (·.2.1)).countP_eq]
theorem deg_zero {x : Nm} {ts : List Tie} (h : ∀ e ∈ ts, e.1 ≠ x ∧ e.2.1 ≠ x) : deg ts x = 0 := by
  unfold deg
  rw [List.countP_eq_zero.mpr, List.countP_eq_zero.mpr]
  · intro a ha
    obtain ⟨e, he, rfl⟩ := List.mem_map.mp ha
    simp [(h e he).2]
  · intro a ha
    obtain ⟨e, he, rfl⟩ := List.mem_map.mp ha
    simp [(h e he).1]
theorem deg_one (e : Tie) (x : Nm) : deg [e] x = (if e.1 = x then 1 else 0) + (if e.2.1 = x then 1 else 0) := by
  unfold deg
  simp [List.countP_cons]
theorem deg_e {a b x : Nm} {k : Int} {e : Tie} (he : e = (a, b, k) ∨ e = (b, a, k)) : deg [e] x = (if a = x then 1 else 0) + (if b = x then 1 else 0) := by
  rw [deg_one]
  rcases he with e | e <;> subst e <;> simp
  omega
theorem rem_app (x : Nm) (ts us : List Tie) : rem (ts ++ us) x = rem ts x ++ rem us x := List.filter_append ..
theorem rem_all {x : Nm} {ts : List Tie} (h : ∀ e ∈ ts, e.1 ≠ x ∧ e.2.1 ≠ x) : rem ts x = ts := List.filter_eq_self.mpr fun e he => by simp [h e he]
theorem but_all {x : Nm} {pl : List Nm} (h : x ∉ pl) : but pl x = pl := List.filter_eq_self.mpr fun y hy => by
  have : y ≠ x := fun e => h (e ▸ hy)
  simp [this]
theorem but_app (x : Nm) (pl ql : List Nm) : but (pl ++ ql) x = but pl x ++ but ql x := List.filter_append ..
theorem mem_but {pl : List Nm} {x y : Nm} : y ∈ but pl x ↔ y ∈ pl ∧ y ≠ x := by
  unfold but
  rw [List.mem_filter]
  simp
theorem Grown.no_b {os : List Nm} {es : List Tie} (g : Grown os es) {b : Nm} (hb : b ∉ os) : ∀ e ∈ es, e.1 ≠ b ∧ e.2.1 ≠ b := fun e he => by
  obtain ⟨h1, h2, _⟩ := g.ties e he
  exact ⟨fun z => hb (z ▸ h1), fun z => hb (z ▸ h2)⟩
theorem Grown.deg0 {os : List Nm} {es : List Tie} (g : Grown os es) : ∀ {x : Nm}, x ∈ os → deg es x = 0 → os = [x] ∧ es = [] := by
  induction g with
  | one a => intro x hx _; rw [List.mem_singleton.mp hx]; exact ⟨rfl, rfl⟩
  | @leaf os es a b k e g ha hb he k1 k2 ih =>
    intro x hx hd
    rw [deg_app, deg_e he] at hd
    by_cases eb : b = x
    · rw [if_pos eb] at hd
      omega
    · have hx' : x ∈ os := by
        rcases List.mem_append.mp hx with z | z
        · exact z
        · exact absurd (List.mem_singleton.mp z).symm eb
      obtain ⟨h1, h2⟩ := ih hx' (by omega)
      rw [h1] at ha
      rw [if_pos (List.mem_singleton.mp ha)] at hd
      omega
theorem Grown.less {os : List Nm} {es : List Tie} (g : Grown os es) : ∀ {x : Nm}, x ∈ os → deg es x = 1 → IsTree (but os x) (rem es x) := by
  induction g with
  | one a => intro x _ hd; cases hd
  | @leaf os es a b k e g ha hb he k1 k2 ih =>
    intro x hx hd
    have ab : a ≠ b := fun z => hb (z ▸ ha)
    have nb := g.no_b hb
    rw [deg_app, deg_e he] at hd
    rw [but_app, rem_app]
    by_cases eb : b = x
    · subst eb
      rw [but_all hb, rem_all nb]
      have e1 : but [b] b = [] := by simp [but]
      have e2 : rem [e] b = [] := by
        rcases he with z | z <;> subst z <;> simp [rem]
      rw [e1, e2, List.append_nil, List.append_nil]
      exact ⟨os, es, g, .refl _, .refl _⟩
    · have hx' : x ∈ os := by
        rcases List.mem_append.mp hx with z | z
        · exact z
        · exact absurd (List.mem_singleton.mp z).symm eb
      rw [if_neg eb] at hd
      have e1 : but [b] x = [b] := by simp [but, eb]
      rw [e1]
      by_cases ea : a = x
      · subst ea
        rw [if_pos rfl] at hd
        obtain ⟨h1, h2⟩ := g.deg0 hx' (by omega)
        have e2 : rem [e] a = [] := by
          rcases he with z | z <;> subst z <;> simp [rem]
        have e3 : but [a] a = [] := by simp [but]
        rw [h1, h2, e2, e3]
        exact ⟨[b], [], .one b, .refl _, .refl _⟩
      · rw [if_neg ea] at hd
        obtain ⟨os', es', g', p1, p2⟩ := ih hx' (by omega)
        have e2 : rem [e] x = [e] := by
          rcases he with z | z <;> subst z <;> simp [rem, ea, eb]
        rw [e2]
        refine ⟨os' ++ [b], es' ++ [e], Grown.leaf (a := a) (k := k) g' (p1.mem_iff.mp (mem_but.mpr ⟨ha, ea⟩)) (fun z => hb (mem_but.mp (p1.mem_iff.mpr z)).1) he k1 k2, p1.append_right _, p2.append_right _⟩
theorem IsTree.less {pl : List Nm} {ts : List Tie} (h : IsTree pl ts) {x : Nm} (hx : x ∈ pl) (hd : deg ts x = 1) : IsTree (but pl x) (rem ts x) := by
  obtain ⟨os, es, g, p, q⟩ := h
  obtain ⟨os', es', g', p', q'⟩ := g.less (p.mem_iff.mp hx) (by rw [← deg_perm q]; exact hd)
  exact ⟨os', es', g', (p.filter _).trans p', (q.filter _).trans q'⟩
theorem Grown.leaf_in {os : List Nm} {es : List Tie} (g : Grown os es) (h : 2 ≤ os.length) : ∃ x ∈ os, deg es x = 1 := by
  cases g with
  | one a => simp at h
  | @leaf os es a b k e g ha hb he k1 k2 =>
    refine ⟨b, by simp, ?_⟩
    have ab : ¬ a = b := fun z => hb (z ▸ ha)
    rw [deg_app, deg_e he, deg_zero (g.no_b hb), if_neg ab, if_pos rfl]
theorem IsTree.leaf_in {pl : List Nm} {ts : List Tie} (h : IsTree pl ts) (l : 2 ≤ pl.length) : leavesOf pl ts ≠ [] := by
  obtain ⟨os, es, g, p, q⟩ := h
  obtain ⟨x, hx, hd⟩ := g.leaf_in (by rw [← p.length_eq]; exact l)
  intro z
  have : x ∈ leavesOf pl ts := List.mem_filter.mpr ⟨p.mem_iff.mpr hx, decide_eq_true (by rw [deg_perm q]; exact hd)⟩
  rw [z] at this
  cases this
theorem mem_leaves {pl : List Nm} {ts : List Tie} {x : Nm} (h : x ∈ leavesOf pl ts) : x ∈ pl ∧ deg ts x = 1 := ⟨(List.mem_filter.mp h).1, of_decide_eq_true (List.mem_filter.mp h).2⟩
end Far

namespace Far
open PySem PySem.Spec PyProof.Rows L2
open C8 (pss_cut tCut)
open SX (S)
/-! ### a tree less its leaves -/
abbrev Tr2 : Type := List Nm × List Tie
def treeP (T : Tr2) : PyData := treeD T.1 T.2
def butL (pl ls : List Nm) : List Nm := pl.filter fun x => !decide (x ∈ ls)
def remL (ts : List Tie) (ls : List Nm) : List Tie := ts.filter fun t => !decide (t.1 ∈ ls) && !decide (t.2.1 ∈ ls)
def wi (T : Tr2) : Tr2 := if T.1.length ≤ 2 then T else (butL T.1 (leavesOf T.1 T.2), remL T.2 (leavesOf T.1 T.2))
theorem butL_cons (pl ls : List Nm) (l : Nm) : butL pl (l :: ls) = but (butL pl ls) l := by
  unfold butL but
  rw [List.filter_filter]
  congr 1
  funext x
  by_cases a : x = l <;> by_cases b : x ∈ ls <;> simp [a, b]
theorem remL_cons (ts : List Tie) (ls : List Nm) (l : Nm) : remL ts (l :: ls) = rem (remL ts ls) l := by
  unfold remL rem
  rw [List.filter_filter]
  congr 1
  funext t
  by_cases a : t.1 = l <;> by_cases b : t.1 ∈ ls <;> by_cases c : t.2.1 = l <;> by_cases d : t.2.1 ∈ ls <;> simp [a, b, c, d]
theorem deg_filter {ts : List Tie} {x : Nm} {p : Tie → Bool} (h : ∀ t ∈ ts, t.1 = x ∨ t.2.1 = x → p t = true) : deg (ts.filter p) x = deg ts x := by
  induction ts with
  | nil => rfl
  | cons t r ih =>
    have ih := ih fun u hu => h u (List.mem_cons_of_mem _ hu)
    have e : deg (t :: r) x = deg [t] x + deg r x := deg_app x [t] r
    cases c : p t with
    | true =>
      rw [List.filter_cons_of_pos c]
      have e2 : deg (t :: r.filter p) x = deg [t] x + deg (r.filter p) x := deg_app x [t] _
      omega
    | false =>
      rw [List.filter_cons_of_neg (by rw [c]; decide), ih, e]
      have z : deg [t] x = 0 := by
        rw [deg_one]
        have n : ¬ (t.1 = x ∨ t.2.1 = x) := fun w => by
          have := h t List.mem_cons_self w
          rw [c] at this
          cases this
        rw [if_neg fun w => n (.inl w), if_neg fun w => n (.inr w)]
      omega
theorem Grown.ends_ne {os : List Nm} {es : List Tie} (g : Grown os es) : ∀ e ∈ es, e.1 ≠ e.2.1 := by
  induction g with
  | one a => intro e he; cases he
  | @leaf os es a b k e g ha hb he k1 k2 ih =>
    intro u hu
    rcases List.mem_append.mp hu with w | w
    · exact ih u w
    · rw [List.mem_singleton.mp w]
      have ab : a ≠ b := fun z => hb (z ▸ ha)
      rcases he with rfl | rfl
      · exact ab
      · exact ab.symm
theorem IsTree.ends_ne {pl : List Nm} {ts : List Tie} (h : IsTree pl ts) : ∀ e ∈ ts, e.1 ≠ e.2.1 := by
  obtain ⟨os, es, g, p, q⟩ := h
  exact fun e he => g.ends_ne e (q.mem_iff.mp he)
theorem but_len {x : Nm} : ∀ {pl : List Nm}, pl.Nodup → pl.length ≤ (but pl x).length + 1
  | [], _ => by simp
  | y :: r, nd => by
    obtain ⟨n1, n2⟩ := List.nodup_cons.mp nd
    by_cases e : y = x
    · have : but (y :: r) x = r := by
        unfold but
        rw [List.filter_cons_of_neg (by simp [e]), List.filter_eq_self.mpr]
        intro z hz
        have : z ≠ x := fun w => n1 (by rw [e, ← w]; exact hz)
        simp [this]
      rw [this]
      simp
    · have : but (y :: r) x = y :: but r x := by
        unfold but
        rw [List.filter_cons_of_pos (by simp [e])]
      have := but_len (x := x) n2
      simp only [*, List.length_cons]
      omega
/-- two leaves side by side: that is all -/
theorem IsTree.leaves_apart {pl : List Nm} {ts : List Tie} (h : IsTree pl ts) (l : 3 ≤ pl.length) {t : Tie} (ht : t ∈ ts) (h1 : deg ts t.1 = 1) (h2 : deg ts t.2.1 = 1) : False := by
  obtain ⟨m1, m2, _⟩ := h.ties t ht
  have L := h.less m1 h1
  have ne : t.1 ≠ t.2.1 := h.ends_ne t ht
  have d0 : deg (rem ts t.1) t.2.1 = 0 := by
    obtain ⟨a, b, e⟩ := List.append_of_mem ht
    have e1 : deg ts t.2.1 = deg a t.2.1 + (deg [t] t.2.1 + deg b t.2.1) := by
      rw [e, deg_app, show t :: b = [t] ++ b from rfl, deg_app]
    have e2 : deg [t] t.2.1 = 1 := by
      rw [deg_one, if_neg ne, if_pos rfl]
    have e3 : deg (rem ts t.1) t.2.1 = deg (rem a t.1) t.2.1 + (deg (rem [t] t.1) t.2.1 + deg (rem b t.1) t.2.1) := by
      rw [e, rem_app, show t :: b = [t] ++ b from rfl, rem_app, deg_app, deg_app]
    have e4 : rem [t] t.1 = [] := by simp [rem]
    have e5 : deg ([] : List Tie) t.2.1 = 0 := rfl
    have le : ∀ us : List Tie, deg (rem us t.1) t.2.1 ≤ deg us t.2.1 := by
      intro us
      unfold deg rem
      exact Nat.add_le_add ((List.filter_sublist.map _).countP_le) ((List.filter_sublist.map _).countP_le)
    have := le a
    have := le b
    rw [e4, e5] at e3
    omega
  obtain ⟨os, es, g, p, q⟩ := L
  have := g.deg0 (p.mem_iff.mp (mem_but.mpr ⟨m2, ne.symm⟩)) (by rw [← deg_perm q]; exact d0)
  have l1 : (but pl t.1).length = 1 := by rw [p.length_eq, this.1]; rfl
  have l2 : pl.length ≤ (but pl t.1).length + 1 := but_len h.nodup
  omega
theorem IsTree.peelL {pl : List Nm} {ts : List Tie} (h : IsTree pl ts) (l : 3 ≤ pl.length) : ∀ ls : List Nm, ls.Nodup → (∀ x ∈ ls, x ∈ pl ∧ deg ts x = 1) → IsTree (butL pl ls) (remL ts ls)
  | [], _, _ => by
    have e1 : butL pl [] = pl := List.filter_eq_self.mpr fun x _ => by simp
    have e2 : remL ts [] = ts := List.filter_eq_self.mpr fun x _ => by simp
    rw [e1, e2]
    exact h
  | x :: ls, nd, hl => by
    obtain ⟨n1, n2⟩ := List.nodup_cons.mp nd
    have ih := h.peelL l ls n2 fun y hy => hl y (List.mem_cons_of_mem _ hy)
    obtain ⟨mx, dx⟩ := hl x List.mem_cons_self
    rw [butL_cons, remL_cons]
    refine ih.less (List.mem_filter.mpr ⟨mx, by simp [n1]⟩) ?_
    unfold remL
    rw [deg_filter, dx]
    intro t ht hx
    have : ∀ y, (y = t.1 ∨ y = t.2.1) → y ∉ ls := by
      intro y hy my
      have dy := (hl y (List.mem_cons_of_mem _ my)).2
      have nxy : y ≠ x := fun z => n1 (z ▸ my)
      rcases hy with rfl | rfl
      · rcases hx with w | w
        · exact nxy w
        · exact h.leaves_apart l ht dy (by rw [w]; exact dx)
      · rcases hx with w | w
        · exact h.leaves_apart l ht (by rw [w]; exact dx) dy
        · exact nxy w
    simp [this _ (.inl rfl), this _ (.inr rfl)]
theorem IsTree.wi {T : Tr2} (h : IsTree T.1 T.2) : IsTree (wi T).1 (wi T).2 := by
  unfold Far.wi
  by_cases c : T.1.length ≤ 2
  · rw [if_pos c]
    exact h
  · rw [if_neg c]
    exact h.peelL (by omega) _ (h.nodup.filter _) fun x hx => mem_leaves hx
theorem wi_less {T : Tr2} (h : IsTree T.1 T.2) (c : 2 < T.1.length) : (wi T).1.length < T.1.length := by
  unfold wi
  rw [if_neg (by omega)]
  obtain ⟨x, hx⟩ := List.exists_mem_of_ne_nil _ (h.leaf_in (by omega))
  show (butL T.1 (leavesOf T.1 T.2)).length < _
  unfold butL
  refine List.length_filter_lt_length_iff_exists.mpr ⟨x, (mem_leaves hx).1, ?_⟩
  simp [hx]
theorem wi_sub (T : Tr2) : (∀ x ∈ (wi T).1, x ∈ T.1) ∧ (wi T).1.length ≤ T.1.length ∧ (wi T).2.length ≤ T.2.length := by
  unfold wi
  by_cases c : T.1.length ≤ 2
  · rw [if_pos c]
    exact ⟨fun _ h => h, Nat.le_refl _, Nat.le_refl _⟩
  · rw [if_neg c]
    exact ⟨fun x hx => (List.mem_filter.mp hx).1, List.length_filter_le .., List.length_filter_le ..⟩
/-- what is left of a tree, leaves taken off again and again -/
inductive Peel : Tr2 → List Tr2 → Prop
  | one {T : Tr2} : T.1.length ≤ 2 → Peel T [T]
  | cons {T : Tr2} {L : List Tr2} : 2 < T.1.length → Peel (wi T) L → Peel T (T :: L)
theorem Peel.det {T : Tr2} {L M : List Tr2} (h : Peel T L) (h' : Peel T M) : L = M := by
  induction h generalizing M with
  | one c => cases h' with
    | one => rfl
    | cons d => omega
  | cons c p ih => cases h' with
    | one => omega
    | cons d q => rw [ih q]
/-- so far: L is behind, X next -/
def PeelAt (T : Tr2) (L : List Tr2) (X : Tr2) : Prop := IsTree X.1 X.2 ∧ L.length + X.1.length ≤ T.1.length ∧ X.2.length ≤ T.2.length ∧ (∀ x ∈ X.1, x ∈ T.1) ∧ (∀ Y ∈ L, IsTree Y.1 Y.2 ∧ (∀ x ∈ Y.1, x ∈ T.1)) ∧ ∀ R, Peel X R → Peel T (L ++ R)
theorem PeelAt.start {T : Tr2} (h : IsTree T.1 T.2) : PeelAt T [] T := ⟨h, by simp, Nat.le_refl _, fun _ h => h, (fun _ h => by cases h), fun _ h => h⟩
theorem PeelAt.step {T X : Tr2} {L : List Tr2} (h : PeelAt T L X) (c : 2 < X.1.length) : PeelAt T (L ++ [X]) (wi X) := by
  obtain ⟨h1, h2, h3, h4, h5, h6⟩ := h
  obtain ⟨s1, s2, s3⟩ := wi_sub X
  have := wi_less h1 c
  refine ⟨h1.wi, by simp; omega, by omega, fun x hx => h4 x (s1 x hx), fun Y hY => ?_, fun R r => ?_⟩
  · rcases List.mem_append.mp hY with w | w
    · exact h5 Y w
    · rw [List.mem_singleton.mp w]
      exact ⟨h1, h4⟩
  · rw [List.append_assoc]
    exact h6 _ (.cons c r)
theorem keptP_lv (pl : List Nm) (ls : List Nm) : keptP pl (butL pl ls) = butL pl ls := by
  unfold keptP butL
  refine List.filter_congr fun x hx => ?_
  by_cases c : x ∈ ls
  · simp [c]
  · simp [c, hx]
theorem keptT_lv {pl : List Nm} {ts : List Tie} (h : ∀ e ∈ ts, e.1 ∈ pl ∧ e.2.1 ∈ pl) (ls : List Nm) : keptT (butL pl ls) ts = remL ts ls := by
  unfold keptT remL butL
  refine List.filter_congr fun t ht => ?_
  obtain ⟨a, b⟩ := h t ht
  by_cases c : t.1 ∈ ls <;> by_cases d : t.2.1 ∈ ls <;> simp [a, b, c, d]
abbrev s_without_leaves : Stmt := topS 11
abbrev N_without_leaves : List Str := ["tree", "leaves", "place"]
theorem sc_without_leaves : FnScope N_without_leaves ["tree"] (defScope s_without_leaves) := ⟨rfl, rfl, rfl, by decide +kernel, rfl, by decide +kernel, by decide +kernel⟩
abbrev s_peeled : Stmt := topS 12
abbrev N_peeled : List Str := ["tree", "told"]
theorem sc_peeled : FnScope N_peeled ["tree"] (defScope s_peeled) := ⟨rfl, rfl, rfl, by decide +kernel, rfl, by decide +kernel, by decide +kernel⟩
section
variable {P : Program} {w : World} {K : PySem.W.Frag} {mg : Str → Option Value} {base : Heap}
structure TxtL (mg : Str → Option Value) : Prop where
  len : mg "len" = none
def spWithout : Sp := fun vs H Q _ => ∃ (v : V) (pl : List Nm) (ts : List Tie), vs = [v] ∧ Dt H v (treeD pl ts) ∧ IsTree pl ts ∧ pl.length ≤ 1000 ∧ ∀ (H' : Hp) (r : V), Same H H' → Dt H' r (treeP (wi (pl, ts))) → Q r H'
theorem ok_without_leaves {f : Addr} {fd : FuncData} (F : Fun K "without_leaves" "without_leaves" s_without_leaves f fd) (T : TxtL mg) (Cleaves_of : Cal P w K mg base 1 "leaves_of" spLeaves) (Cpart_of : Cal P w K mg base 1 "part_of" spPart) : FnOk P w K mg base CX0 2 f fd ["tree"] spWithout := by
  refine F.ok sc_without_leaves (fun vs H Q E h => ?_) (fun cdv A outer s H vs Q E hr h => ?_)
  · obtain ⟨v, pl, ts, rfl, _⟩ := h
    rfl
  · obtain ⟨v, pl, ts, rfl, hd, htr, hl, q⟩ := h
    obtain ⟨t, a, b, vs, rfl, ht, ha, hb, hA⟩ := dt_tree hd
    have tl := htr.len
    refine ⟨_, (pss_cut (ps_if (pt_cmpR op_le (pe_callB call_len_seq (by rfl) T.len bt_len (pa_cons (pe_ix ix_tup (pv 0) pe_int (fun _ _ => rfl)) pa_nil)) pe_int (nomark _))
        (pss_one (ps_ret (pv 0)))
        pss_nil)
      (pss_cons (ps_set (i := 1) sc_without_leaves.nd rfl (.inr rfl) (pe_c Cleaves_of hr (by decide) rfl (pa_cons (pv 0) pa_nil)))
      (pss_one (ps_ret (pe_c Cpart_of hr (by decide) rfl (pa_cons (pv 0) (pa_cons (pe_lc (own := [("place", 2)]) (g := gName 2)  rfl sc_without_leaves.nd (pi_tup (pe_ix ix_tup (pv 0) pe_int (fun _ _ => rfl))) (blkOk_by (N := N_without_leaves) (sc := defScope s_without_leaves) (by decide +kernel)) (fun _ _ _ _ _ => pg_name (i := 2) sc_without_leaves.nd rfl (Or.inl rfl)) (fun _ _ _ _ _ => pts_one (pt_cmpR (notInK (K := K)) (pv 2) (pv 1) rfl)) (fun _ _ _ _ _ => (pv 2))) pa_nil))))))), ?_⟩
    refine ⟨fun σ' H' => σ' = [some (.ref t), none, none] ∧ H' = H ∧ 2 < pl.length, ?_, fun σ' H' hM => ?_⟩
    · refine ⟨_, rfl, t, _, 0, .ref a, rfl, rfl, SqT.of ht, atI_nat (j := 0) rfl, a, _, rfl, .inr ha.sq, _, _, rfl, rfl, _, rfl, ?_⟩
      rw [List.length_map, List.length_map]
      by_cases c : pl.length ≤ 2
      · rw [decide_eq_true (show ((pl.length : Nat) : Int) ≤ 2 by omega)]
        refine iteT ⟨_, rfl, q H _ (Same.refl H) ?_⟩
        have e : wi (pl, ts) = (pl, ts) := if_pos c
        rw [e]
        exact hd
      · rw [decide_eq_false (show ¬ ((pl.length : Nat) : Int) ≤ 2 by omega)]
        exact iteF ⟨rfl, rfl, by omega⟩
    · obtain ⟨rfl, rfl, lt⟩ := hM
      refine ⟨_, rfl, _, pl, ts, rfl, hd, hl, by omega, fun H1 g s1 ng hg => ?_⟩
      refine ⟨_, rfl, _, rfl, t, _, 0, .ref a, rfl, rfl, SqT.of (s1 _ _ ht), atI_nat (j := 0) rfl, a, rfl, ⟨_, (ha.same s1).sq⟩, fun D nD => ?_⟩
      have gl : (leavesOf pl ts).length ≤ 1000 := Nat.le_trans (List.length_filter_le ..) hl
      refine lc_tup (K := K) (a := a) (xs := (pl.map S).map V.str) (fun i H'' => Same H' H'' ∧ H'' g = some (.tup (((leavesOf pl ts).map S).map V.str)) ∧ H'' D = some (.lst (((butL (pl.take i) (leavesOf pl ts)).map S).map V.str))) ⟨same_new s1 nD, by rw [upd_ne (ne_of_none hg nD)]; exact hg, upd_same⟩ (fun i H'' _ hP => (ha.same hP.1).sq) (fun i v H'' hi hP => ?_) (fun H'' hP => ?_)
      · obtain ⟨S2, hg2, hD⟩ := hP
        obtain ⟨x, hx, mx, rfl, ex⟩ := at_name hi
        have il := (List.getElem?_eq_some_iff.mp hx).1
        refine ⟨rfl, _, rfl, _, rfl, g, _, rfl, .inr (SqT.of hg2), rfl, flat_strs _, _, rfl, ?_⟩
        rw [inV_strs]
        have bl : (butL (pl.take i) (leavesOf pl ts)).length ≤ 1000 := by
          have := List.length_filter_le (fun x => !decide (x ∈ leavesOf pl ts)) (pl.take i)
          rw [List.length_take] at this
          unfold butL
          omega
        by_cases c : x ∈ leavesOf pl ts
        · rw [decide_eq_true c]
          refine iteF ⟨S2, hg2, ?_⟩
          rw [ex]
          unfold butL at *
          rw [List.filter_append, List.filter_cons_of_neg (by simp [c])]
          simpa using hD
        · rw [decide_eq_false c]
          refine iteT ⟨_, rfl, _, hD, by rw [List.length_map, List.length_map]; exact sz_lt (by omega), same_put S2 (s1.free nD), by rw [upd_ne (ne_of_none hg nD)]; exact hg2, ?_⟩
          rw [upd_same, ex]
          unfold butL
          rw [List.filter_append, List.filter_cons_of_pos (by simp [c]), List.map_append, List.map_append]
          rfl
      · obtain ⟨S2, hg2, hD⟩ := hP
        rw [List.length_map, List.length_map, List.take_length] at hD
        refine ⟨_, D, pl, _, ts, rfl, hd.keep (TK.of S2), hD, hl, by omega, fun H3 r s3 nr hr3 => q H3 _ (S2.trans s3) ?_⟩
        rw [keptP_lv, keptT_lv (fun e he => ⟨(htr.ties e he).1, (htr.ties e he).2.1⟩)] at hr3
        have e : wi (pl, ts) = (butL pl (leavesOf pl ts), remL ts (leavesOf pl ts)) := if_neg (show ¬ pl.length ≤ 2 by omega)
        rw [e]
        exact hr3
/-- trees told one after another -/
def spPeeled : Sp := fun vs H Q _ => ∃ (v : V) (pl : List Nm) (ts : List Tie), vs = [v] ∧ Dt H v (treeD pl ts) ∧ IsTree pl ts ∧ pl.length ≤ 1000 ∧ ∀ (H' : Hp) (r : Addr) (us : List V) (L : List Tr2), Same H H' → H r = none → H' r = some (.lst us) → DtAll H' us (L.map treeP) → Peel (pl, ts) L → L.length ≤ 1000 → (∀ Y ∈ L, IsTree Y.1 Y.2 ∧ ∀ x ∈ Y.1, x ∈ pl) → Q (.ref r) H'
theorem dt_snoc {H : Hp} {us : List V} {L : List Tr2} {X : Tr2} (h : DtAll H us ((L ++ [X]).map treeP)) : ∃ (us' : List V) (v : V), us = us' ++ [v] ∧ Dt H v (treeP X) := by
  have l := DtAll.len h
  rw [List.length_map, List.length_append, List.length_singleton] at l
  have hv : us[L.length]? = some (us[L.length]'(by omega)) := by simp
  obtain ⟨d, hd, hv2⟩ := DtAll.get h hv
  rw [List.getElem?_map, List.getElem?_append_right (Nat.le_refl _)] at hd
  simp at hd
  subst hd
  refine ⟨us.take L.length, _, ?_, hv2⟩
  have e : us.take (L.length + 1) = us := List.take_of_length_le (by omega)
  have e2 : us.take (L.length + 1) = us.take L.length ++ [us[L.length]'(by omega)] := by
    rw [List.take_add_one, hv]
    rfl
  exact e.symm.trans e2
theorem ok_peeled {f : Addr} {fd : FuncData} (F : Fun K "peeled" "peeled" s_peeled f fd) (T : TxtL mg) (Cwithout_leaves : Cal P w K mg base 2 "without_leaves" spWithout) : FnOk P w K mg base CX0 3 f fd ["tree"] spPeeled := by
  refine F.ok sc_peeled (fun vs H Q E h => ?_) (fun cdv A outer s H vs Q E hr h => ?_)
  · obtain ⟨v, pl, ts, rfl, _⟩ := h
    rfl
  · obtain ⟨v, pl, ts, rfl, hd, htr, hl, q⟩ := h
    refine ⟨_, (pss_cons (ps_set (i := 1) sc_peeled.nd rfl (.inl rfl) (pe_lst (pa_cons (pv 0) pa_nil)))
      (pss_cut (ps_while PassesOwn.never (pt_cmpR op_gt (pe_callB call_len_seq (by rfl) T.len bt_len (pa_cons (pe_ix ix_tup (pe_ix ix_list (pv 1) (pe_un un_neg pe_int) (fun _ _ => rfl)) pe_int (fun _ _ => rfl)) pa_nil)) pe_int (nomark _))
        (pss_one (ps_expr (pe_bm PySem.F.plainAttrs_list PySem.F.slot_list_append PySem.F.type_list_append mt_append (pv 1) (pa_cons (pe_c Cwithout_leaves hr (by decide) rfl (pa_cons (pe_ix ix_list (pv 1) (pe_un un_neg pe_int) (fun _ _ => rfl)) pa_nil)) pa_nil)))))
      (pss_one (ps_ret (pv 1))))), ?_⟩
    refine ⟨_, rfl, by show 1 ≤ sizeLine; rw [sizeLine_eq]; decide, fun a na => ?_⟩
    have nd0 := htr.nodup
    refine ⟨fun σ' H' => σ' = [some v, some (.ref a)] ∧ ∃ (us : List V) (L : List Tr2) (X : Tr2), Same H H' ∧ H' a = some (.lst us) ∧ DtAll H' us ((L ++ [X]).map treeP) ∧ PeelAt (pl, ts) L X ∧ X.1.length ≤ 2, ?_, fun σ' H' hM => ?_⟩
    · refine ⟨fun m σ H' => σ = [some v, some (.ref a)] ∧ ∃ (us : List V) (L : List Tr2) (X : Tr2), Same H H' ∧ H' a = some (.lst us) ∧ DtAll H' us ((L ++ [X]).map treeP) ∧ PeelAt (pl, ts) L X ∧ m = X.1.length, ⟨pl.length, ?_⟩, ?_⟩
      · have tk := TK.new (o := .lst [v]) na
        exact ⟨rfl, [v], [], (pl, ts), same_new (Same.refl H) na, upd_same, .cons (hd.keep tk) .nil, .start htr, rfl⟩
      · rintro m σ' H' ⟨rfl, us, L, X, S1, ha, hA, hP, rfl⟩
        obtain ⟨us', x, rfl, hx⟩ := dt_snoc hA
        obtain ⟨t, p, b, vs, rfl, ht, hp, hb, hB⟩ := dt_tree hx
        refine ⟨_, rfl, 1, rfl, a, _, -1, .ref t, rfl, rfl, SqL.of ha, atI_last _ _, t, _, 0, .ref p, rfl, rfl, SqT.of ht, atI_nat (j := 0) rfl, p, _, rfl, .inr hp.sq, _, _, rfl, rfl, _, rfl, ?_⟩
        rw [List.length_map, List.length_map]
        have ul : us'.length = L.length := by
          have := DtAll.len hA
          rw [List.length_append, List.length_map, List.length_append] at this
          simpa using this
        have Ll : L.length + X.1.length ≤ 1000 := Nat.le_trans hP.2.1 hl
        by_cases c : X.1.length ≤ 2
        · rw [decide_eq_false (show ¬ (2 : Int) < ((X.1.length : Nat) : Int) by omega)]
          exact iteF ⟨rfl, _, L, X, S1, ha, hA, hP, c⟩
        · rw [decide_eq_true (show (2 : Int) < ((X.1.length : Nat) : Int) by omega)]
          refine iteT ⟨fun σ' H'' => ∃ (us2 : List V), σ' = [some v, some (.ref a)] ∧ Same H H'' ∧ H'' a = some (.lst us2) ∧ DtAll H'' us2 (((L ++ [X]) ++ [wi X]).map treeP), ?_, ?_⟩
          · rintro σ' H'' ⟨us2, e, S2, ha2, hA2⟩
            exact ⟨_, wi_less hP.1 (by omega), e, us2, L ++ [X], wi X, S2, ha2, hA2, hP.step (by omega), rfl⟩
          · refine ⟨_, rfl, .inl ⟨rfl, _, SqL.of ha⟩, _, rfl, 1, rfl, a, _, -1, .ref t, rfl, rfl, SqL.of ha, atI_last _ _, _, X.1, X.2, rfl, hx, hP.1, by omega, fun H2 r s2 hr2 => ?_⟩
            have ha2 := s2 _ _ ha
            have tk := TK.mut (o := .lst (us' ++ [.ref t] ++ [r])) ha2
            refine ⟨a, _, _, rfl, rfl, ha2, by rw [List.length_append, List.length_singleton]; exact sz_lt (by omega), us' ++ [.ref t] ++ [r], rfl, same_put (S1.trans s2) na, upd_same, ?_⟩
            rw [List.map_append]
            exact DtAll.app (DtAll.keep ((TK.of s2).trans tk) hA) (.cons (hr2.keep tk) .nil)
    · obtain ⟨rfl, us, L, X, S1, ha, hA, ⟨p1, p2, p3, p4, p5, p6⟩, c⟩ := hM
      refine ⟨_, rfl, q H' a us (L ++ [X]) S1 na ha hA (p6 _ (.one c)) ?_ fun Y hY => ?_⟩
      · rw [List.length_append, List.length_singleton]
        have : 1 ≤ X.1.length := by have := p1.len; omega
        have : pl.length ≤ 1000 := hl
        show L.length + 1 ≤ 1000
        have p2 : L.length + X.1.length ≤ pl.length := p2
        omega
      · rcases List.mem_append.mp hY with w | w
        · exact p5 Y w
        · rw [List.mem_singleton.mp w]
          exact ⟨p1, p4⟩
end
end Far

namespace Far
open PySem
open SX (S)
/-! ### ways cut, put together -/
theorem snoc_cons {α : Type} {p p1 p2 : List α} {w m : α} (h : p ++ [w] = p1 ++ m :: p2) : (p2 = [] ∧ p1 = p ∧ m = w) ∨ ∃ p3, p2 = p3 ++ [w] ∧ p = p1 ++ m :: p3 := by
  rcases List.eq_nil_or_concat p2 with e | ⟨p3, z, e⟩
  · subst e
    have := List.append_inj' h rfl
    exact .inl ⟨rfl, this.1.symm, by simpa using this.2.symm⟩
  · rw [e] at h ⊢
    have h' : p ++ [w] = (p1 ++ m :: p3) ++ [z] := by rw [h]; simp
    have := List.append_inj' h' rfl
    refine .inr ⟨p3, ?_, this.1⟩
    have : w = z := by simpa using this.2
    rw [this]
    simp
theorem Way.split {ts : List Tie} {u v : Nm} {p : List Nm} {L : Int} (h : Way ts u v p L) : ∀ {p1 p2 : List Nm} {m : Nm}, p = p1 ++ m :: p2 → ∃ L1 L2, Way ts u m (p1 ++ [m]) L1 ∧ Way ts m v (m :: p2) L2 ∧ L = L1 + L2 := by
  induction h with
  | nil =>
    intro p1 p2 m e
    have h1 : p1 = [] ∧ m = u ∧ p2 = [] := by
      cases p1 with
      | nil =>
        have := List.cons.inj e
        exact ⟨rfl, this.1.symm, this.2.symm⟩
      | cons a r =>
        have := congrArg List.length e
        simp at this
    obtain ⟨rfl, rfl, rfl⟩ := h1
    exact ⟨0, 0, .nil, .nil, by omega⟩
  | @snoc v w p L k h1 ha hn ih =>
    intro p1 p2 m e
    rcases snoc_cons e with ⟨rfl, rfl, rfl⟩ | ⟨p3, rfl, rfl⟩
    · exact ⟨L + k, 0, .snoc h1 ha hn, .nil, by omega⟩
    · obtain ⟨L1, L2, w1, w2, el⟩ := ih rfl
      exact ⟨L1, L2 + k, w1, .snoc w2 ha (fun z => hn (List.mem_append_right _ z)), by omega⟩
theorem Way.join {ts : List Tie} {u m v : Nm} {p1 q : List Nm} {L1 L2 : Int} (h1 : Way ts u m (p1 ++ [m]) L1) (h2 : Way ts m v q L2) (d : ∀ y ∈ q, y ∉ p1) : Way ts u v (p1 ++ q) (L1 + L2) := by
  induction h2 with
  | nil => simpa using h1
  | @snoc v w q L k h ha hn ih =>
    have := Way.snoc (ih fun y hy => d y (List.mem_append_left _ hy)) ha (w := w) (fun z => by
      rcases List.mem_append.mp z with z | z
      · exact d w (by simp) z
      · exact hn z)
    rw [List.append_assoc] at this
    rw [← Int.add_assoc]
    exact this
theorem first_in (q : List Nm) : ∀ {p : List Nm}, (∃ y ∈ p, y ∈ q) → ∃ A m B, p = A ++ m :: B ∧ m ∈ q ∧ ∀ y ∈ A, y ∉ q
  | [], h => by simp at h
  | a :: r, h => by
    by_cases e : a ∈ q
    · exact ⟨[], a, r, rfl, e, by simp⟩
    · obtain ⟨y, hy, hq⟩ := h
      rcases List.mem_cons.mp hy with z | z
      · exact absurd (z ▸ hq) e
      · obtain ⟨A, m, B, e1, e2, e3⟩ := first_in q ⟨y, z, hq⟩
        refine ⟨a :: A, m, B, by rw [e1]; rfl, e2, fun y hy => ?_⟩
        rcases List.mem_cons.mp hy with z | z
        · exact z ▸ e
        · exact e3 y z
theorem last_of {p : List Nm} {x : Nm} {A B : List Nm} {m : Nm} (h : p ++ [x] = A ++ m :: B) : (B = [] ∧ m = x) ∨ x ∈ B := by
  rcases snoc_cons h with ⟨e, _, em⟩ | ⟨p3, e, _⟩
  · exact .inl ⟨e, em⟩
  · exact .inr (by rw [e]; simp)
/-- the place where three ways meet -/
theorem IsTree.median {pl : List Nm} {ts : List Tie} (h : IsTree pl ts) {u v x : Nm} (hu : u ∈ pl) (hv : v ∈ pl) (hx : x ∈ pl) : ∃ (m : Nm) (A B C : List Nm) (d : Int), path ts u x = A ++ m :: B ∧ path ts x v = B.reverse ++ m :: C ∧ path ts u v = A ++ m :: C ∧
    (∀ y ∈ A, y ∉ path ts x v) ∧ dist ts u x + dist ts x v = dist ts u v + 2 * d ∧ 0 ≤ d ∧ (d = 0 ↔ B = []) := by
  have wp := h.the_way hu hx
  have wq := h.the_way hx hv
  obtain ⟨A, m, B, ep, mq, dA⟩ := first_in (path ts x v) ⟨x, wp.mem, by
    obtain ⟨r, e⟩ := wq.first
    rw [e]
    simp⟩
  obtain ⟨B', C, eq⟩ := List.append_of_mem mq
  obtain ⟨L1, L2, w1, w2, el⟩ := wp.split ep
  obtain ⟨L3, L4, w3, w4, el2⟩ := wq.split eq
  have wr := w2.rev
  rw [List.reverse_cons] at wr
  obtain ⟨eb, e23⟩ := h.one_way w3 wr
  have eb' : B' = B.reverse := (List.append_inj' eb rfl).1
  subst eb'
  have wj := w1.join w4 (fun y hy z => dA y z (by rw [eq]; exact List.mem_append_right _ hy))
  obtain ⟨f1, f2⟩ := h.is_way wj
  obtain ⟨n0, n1⟩ := w2.nonneg (fun e he => (h.ties e he).2.2.1)
  refine ⟨m, A, B, C, L2, ep, eq, f1, dA, by omega, n0, ?_, fun e => ?_⟩
  · intro e
    rw [List.length_cons] at n1
    exact List.eq_nil_of_length_eq_zero (by omega)
  · subst e
    obtain ⟨r, er⟩ := w2.last
    have em : x = m := by
      cases r with
      | nil => exact (List.cons.inj er).1.symm
      | cons a r =>
        have := congrArg List.length er
        simp at this
    subst em
    exact (h.one_way w2 .nil).2
/-- over a third place no way is shorter; just as long where it is on the way -/
theorem IsTree.over {pl : List Nm} {ts : List Tie} (h : IsTree pl ts) {u v x : Nm} (hu : u ∈ pl) (hv : v ∈ pl) (hx : x ∈ pl) : dist ts u v ≤ dist ts u x + dist ts x v ∧ (dist ts u x + dist ts x v = dist ts u v ↔ x ∈ path ts u v) ∧
    ∃ m, (path ts u v).filter (fun y => decide (y ∈ path ts u x) && decide (y ∈ path ts x v)) = [m] := by
  obtain ⟨m, A, B, C, d, e1, e2, e3, dA, ed, d0, db⟩ := h.median hu hv hx
  have np := (h.the_way hu hx).nodup
  have nq := (h.the_way hx hv).nodup
  obtain ⟨r, er⟩ := (h.the_way hu hx).last
  obtain ⟨t, et⟩ := (h.the_way hx hv).first
  rw [e1] at np er
  rw [e2] at nq et dA
  have qd := List.nodup_append.mp nq
  have pd := List.nodup_append.mp np
  refine ⟨by omega, ⟨fun e => ?_, fun e => ?_⟩, m, ?_⟩
  · have b0 := db.mp (by omega)
    subst b0
    rcases last_of er.symm with ⟨_, em⟩ | z
    · rw [e3, ← em]
      simp
    · cases z
  · rcases last_of er.symm with ⟨b0, _⟩ | z
    · have := db.mpr b0
      omega
    · exfalso
      rw [e3] at e
      rcases List.mem_append.mp e with q | q
      · exact pd.2.2 x q x (List.mem_cons_of_mem _ z) rfl
      · rcases List.mem_cons.mp q with q | q
        · exact (List.nodup_cons.mp pd.2.1).1 (q ▸ z)
        · have : x ∈ B.reverse := List.mem_reverse.mpr z
          exact qd.2.2 x this x (List.mem_cons_of_mem _ q) rfl
  · rw [e3, e1, e2, List.filter_append]
    have fA : A.filter (fun y => decide (y ∈ A ++ m :: B) && decide (y ∈ B.reverse ++ m :: C)) = [] := by
      refine List.filter_eq_nil_iff.mpr fun y hy => ?_
      simp only [Bool.and_eq_true, decide_eq_true_eq, not_and]
      exact fun _ => dA y hy
    have fC : C.filter (fun y => decide (y ∈ A ++ m :: B) && decide (y ∈ B.reverse ++ m :: C)) = [] := by
      refine List.filter_eq_nil_iff.mpr fun y hy => ?_
      simp only [Bool.and_eq_true, decide_eq_true_eq, not_and]
      intro z _
      rcases List.mem_append.mp z with z | z
      · exact dA y z (List.mem_append_right _ (List.mem_cons_of_mem _ hy))
      · rcases List.mem_cons.mp z with z | z
        · exact (List.nodup_cons.mp qd.2.1).1 (z ▸ hy)
        · exact qd.2.2 y (List.mem_reverse.mpr z) y (List.mem_cons_of_mem _ hy) rfl
    rw [fA, List.filter_cons, if_pos (by simp), fC]
    rfl
/-- two beside one another -/
theorem Way.two {ts : List Tie} {u v : Nm} {k : Int} (h : Adj ts u v k) (ne : v ≠ u) : Way ts u v [u, v] k := by
  have := Way.snoc (ts := ts) (u := u) .nil h (by simpa using ne)
  simpa using this
theorem Grown.adj_ne {os : List Nm} {es : List Tie} (g : Grown os es) : ∀ {u v : Nm} {k : Int}, Adj es u v k → v ≠ u := by
  induction g with
  | one a =>
    intro u v k h
    rcases h with h | h <;> cases h
  | @leaf os es a b k0 e0 g ha hbn he k1 k2 ih =>
    intro u v k h
    have hb : ∀ e ∈ es, e.1 ≠ b ∧ e.2.1 ≠ b := fun e hm => by
      obtain ⟨i1, i2, _⟩ := g.ties e hm
      exact ⟨fun z => hbn (z ▸ i1), fun z => hbn (z ▸ i2)⟩
    have ab : a ≠ b := fun z => hbn (z ▸ ha)
    rcases adj_new hb ab he h with ⟨h, _, _⟩ | ⟨e1, e2, _⟩ | ⟨e1, e2, _⟩
    · exact ih h
    · rw [e1, e2]
      exact Ne.symm ab
    · rw [e1, e2]
      exact ab
theorem IsTree.adj_ne {pl : List Nm} {ts : List Tie} (h : IsTree pl ts) {u v : Nm} {k : Int} (a : Adj ts u v k) : v ≠ u := by
  obtain ⟨os, es, g, _, p2⟩ := h
  exact g.adj_ne (a.perm p2)
theorem IsTree.adj_one {pl : List Nm} {ts : List Tie} (h : IsTree pl ts) {u v : Nm} {k l : Int} (a : Adj ts u v k) (b : Adj ts u v l) : k = l := (h.one_way (Way.two a (h.adj_ne a)) (Way.two b (h.adj_ne b))).2
/-- the ties of a way -/
theorem Way.hops {ts : List Tie} {u v : Nm} {p : List Nm} {L : Int} (h : Way ts u v p L) : ∃ ks : List Int, ks.length + 1 = p.length ∧ ks.sum = L ∧ ∀ (i : Nat) (x y : Nm), p[i]? = some x → p[i + 1]? = some y → ∃ k, ks[i]? = some k ∧ Adj ts x y k := by
  induction h with
  | nil => exact ⟨[], rfl, rfl, fun i x y _ e => by simp at e⟩
  | @snoc v w p L k h ha hn ih =>
    obtain ⟨ks, e1, e2, e3⟩ := ih
    refine ⟨ks ++ [k], by simp [e1], by simp [e2], fun i x y ex ey => ?_⟩
    by_cases lt : i + 1 < p.length
    · rw [List.getElem?_append_left (by omega)] at ex
      rw [List.getElem?_append_left lt] at ey
      obtain ⟨k', f1, f2⟩ := e3 i x y ex ey
      exact ⟨k', by rw [List.getElem?_append_left (by omega)]; exact f1, f2⟩
    · have ei : i + 1 = p.length := by
        have := (List.getElem?_eq_some_iff.mp ey).1
        simp at this
        omega
      rw [List.getElem?_append_left (by omega)] at ex
      rw [ei, List.getElem?_append_right (by omega)] at ey
      simp at ey
      obtain ⟨q, eq⟩ := h.last
      rw [eq] at ex ei
      rw [List.length_append, List.length_singleton] at ei
      have ei' : i = q.length := by omega
      rw [ei', List.getElem?_append_right (by omega)] at ex
      simp at ex
      rw [← ex, ← ey]
      refine ⟨k, ?_, ha⟩
      have : ks.length = i := by
        rw [eq, List.length_append, List.length_singleton] at e1
        omega
      rw [← this]
      simp
end Far

namespace Far
open PySem PySem.Spec PyProof.Rows L2
open SX (S)
/-! ### the fewest places so near to all -/
theorem Way.rising {pl : List Nm} {ts : List Tie} (F : IsTree pl ts) {u v : Nm} {p : List Nm} {L : Int} (h : Way ts u v p L) : (p.map (dist ts u)).Pairwise (· < ·) ∧ ∀ y ∈ p, dist ts u y ≤ L := by
  induction h with
  | nil =>
    refine ⟨by simp, fun y hy => ?_⟩
    rw [List.mem_singleton.mp hy, (F.dist_self u).1]
    exact Int.le_refl _
  | @snoc v w p L k hw ha hn ih =>
    have hk : 1 ≤ k := ha.elim (fun z => (F.ties _ z).2.2.1) fun z => (F.ties _ z).2.2.1
    have ew : dist ts u w = L + k := (F.is_way (Way.snoc hw ha hn)).2
    refine ⟨?_, fun y hy => ?_⟩
    · rw [List.map_append, List.pairwise_append]
      refine ⟨ih.1, by simp, fun a ha' b hb => ?_⟩
      obtain ⟨y, hy, rfl⟩ := List.mem_map.mp ha'
      have hb : b = dist ts u w := by simpa using hb
      rw [hb, ew]
      have := ih.2 y hy
      omega
    · rcases List.mem_append.mp hy with z | z
      · have := ih.2 y z
        omega
      · rw [List.mem_singleton.mp z, ew]
        exact Int.le_refl _
def cutIx (g : List Int) (W : Int) : Nat := (g.filter fun z => decide (2 * z < W)).length
/-- of two places of a way the nearer one stands on the way to the other -/
theorem IsTree.between {pl : List Nm} {ts : List Tie} (F : IsTree pl ts) {u x m l : Nm} (hu : u ∈ pl) (hx : x ∈ pl) (hm : m ∈ path ts u x) (hl : l ∈ path ts u x) (le : dist ts u m ≤ dist ts u l) : dist ts u m + dist ts m l = dist ts u l := by
  have w := F.the_way hu hx
  have pin : ∀ y ∈ path ts u x, y ∈ pl := fun y hy => w.inside (fun e he => ⟨(F.ties e he).1, (F.ties e he).2.1⟩) hu y hy
  obtain ⟨p1, p2, e⟩ := List.append_of_mem hl
  obtain ⟨L1, L2, w1, _, _⟩ := w.split e
  have e1 := F.is_way w1
  have rise := (w.rising F).1
  have hm' : m ∈ path ts u l := by
    rw [e1.1]
    rw [e] at hm
    rcases List.mem_append.mp hm with z | z
    · exact List.mem_append_left _ z
    · rcases List.mem_cons.mp z with z | z
      · exact z ▸ List.mem_append_right _ (List.mem_singleton.mpr rfl)
      · exfalso
        rw [e, List.map_append, List.map_cons] at rise
        have := (List.pairwise_cons.mp (List.pairwise_append.mp rise).2.1).1 _ (List.mem_map_of_mem z)
        omega
  exact (F.over hu (pin l hl) (pin m hm)).2.1.mpr hm'
/-- where the ways of three places meet -/
theorem IsTree.meet {pl : List Nm} {ts : List Tie} (F : IsTree pl ts) {u x y : Nm} (hu : u ∈ pl) (hx : x ∈ pl) (hy : y ∈ pl) : ∃ m ∈ path ts u x, m ∈ pl ∧ dist ts u m + dist ts m x = dist ts u x ∧ dist ts u m + dist ts m y = dist ts u y ∧ dist ts y m + dist ts m x = dist ts y x := by
  obtain ⟨_, _, m, em⟩ := F.over hu hx hy
  have hm : m ∈ (path ts u x).filter (fun z => decide (z ∈ path ts u y) && decide (z ∈ path ts y x)) := by rw [em]; exact List.mem_singleton.mpr rfl
  obtain ⟨h1, h2⟩ := List.mem_filter.mp hm
  rw [Bool.and_eq_true, decide_eq_true_eq, decide_eq_true_eq] at h2
  have mp : m ∈ pl := (F.the_way hu hx).inside (fun e he => ⟨(F.ties e he).1, (F.ties e he).2.1⟩) hu m h1
  exact ⟨m, h1, mp, (F.over hu hx mp).2.1.mpr h1, (F.over hu hy mp).2.1.mpr h2.1, (F.over hy hx mp).2.1.mpr h2.2⟩
/-- what is near to p, at most L away -/
noncomputable def nearB (ts : List Tie) (L : Int) (p t : Nm) : Bool := decide (dist ts p t ≤ L)
/-- the last place on the way from p to r that is near to p -/
noncomputable def hlp (ts : List Tie) (L : Int) (r p : Nm) : Nm := ((path ts p r).filter (nearB ts L p)).getLastD []
theorem dist_nn {pl : List Nm} {ts : List Tie} (F : IsTree pl ts) {u v : Nm} (hu : u ∈ pl) (hv : v ∈ pl) : 0 ≤ dist ts u v := by
  have h := (F.over hu hu hv).1
  rw [(F.dist_self u).1, ← (F.dist_symm hu hv).1] at h
  omega
theorem last_ofD {α : Type} {l : List α} {d : α} (h : l ≠ []) : ∃ a, l = a ++ [l.getLastD d] := by
  refine ⟨l.dropLast, ?_⟩
  have e := List.dropLast_concat_getLast h
  have e2 : l.getLastD d = l.getLast h := by
    rw [List.getLastD_eq_getLast?, List.getLast?_eq_some_getLast h]
    rfl
  rw [e2]
  exact e.symm
theorem hlp_is {pl : List Nm} {ts : List Tie} (F : IsTree pl ts) {L : Int} (hL : 0 ≤ L) {r p : Nm} (hr : r ∈ pl) (hp : p ∈ pl) :
    (∃ a, (path ts p r).filter (nearB ts L p) = a ++ [hlp ts L r p]) ∧ hlp ts L r p ∈ path ts p r ∧ hlp ts L r p ∈ pl ∧ dist ts p (hlp ts L r p) ≤ L ∧ ∀ t ∈ path ts p r, dist ts p t ≤ L → dist ts p t ≤ dist ts p (hlp ts L r p) := by
  have w := F.the_way hp hr
  have pin : ∀ y ∈ path ts p r, y ∈ pl := fun y hy => w.inside (fun e he => ⟨(F.ties e he).1, (F.ties e he).2.1⟩) hp y hy
  have rise := (w.rising F).1
  have hpm : p ∈ path ts p r := by
    have h := (F.over hp hr hp).2.1
    exact h.mp (by rw [(F.dist_self p).1]; omega)
  have ne : (path ts p r).filter (nearB ts L p) ≠ [] := List.ne_nil_of_mem (List.mem_filter.mpr ⟨hpm, by unfold nearB; rw [(F.dist_self p).1]; exact decide_eq_true hL⟩)
  obtain ⟨a, ea⟩ := last_ofD (d := []) ne
  have ea : (path ts p r).filter (nearB ts L p) = a ++ [hlp ts L r p] := ea
  have hm : hlp ts L r p ∈ (path ts p r).filter (nearB ts L p) := by rw [ea]; exact List.mem_append_right _ (List.mem_singleton.mpr rfl)
  obtain ⟨m1, m2⟩ := List.mem_filter.mp hm
  refine ⟨⟨a, ea⟩, m1, pin _ m1, of_decide_eq_true m2, fun t ht hd => ?_⟩
  have htm : t ∈ (path ts p r).filter (nearB ts L p) := List.mem_filter.mpr ⟨ht, decide_eq_true hd⟩
  have sub : (((path ts p r).filter (nearB ts L p)).map (dist ts p)).Pairwise (· < ·) := rise.sublist ((List.filter_sublist ..).map _)
  rw [ea] at htm sub
  rcases List.mem_append.mp htm with z | z
  · rw [List.map_append] at sub
    have := (List.pairwise_append.mp sub).2.2 _ (List.mem_map_of_mem z) (dist ts p (hlp ts L r p)) (List.mem_singleton.mpr rfl)
    omega
  · rw [List.mem_singleton.mp z]
    exact Int.le_refl _
/-- who is near to p, the farthest from r, and to q, has the place of p's helper near to q -/
theorem helper_near {pl : List Nm} {ts : List Tie} (F : IsTree pl ts) {L : Int} (hL : 0 ≤ L) {r p q v : Nm} (hr : r ∈ pl) (hp : p ∈ pl) (hq : q ∈ pl) (hv : v ∈ pl) (far : dist ts r q ≤ dist ts r p) (h1 : dist ts p v ≤ L) (h2 : dist ts q v ≤ L) : dist ts q (hlp ts L r p) ≤ L := by
  obtain ⟨_, m1, mp, mL, top⟩ := hlp_is F hL hr hp
  generalize hlp ts L r p = h at *
  have sy := fun {a b : Nm} (x : a ∈ pl) (y : b ∈ pl) => (F.dist_symm x y).1
  obtain ⟨m, k1, k2, k3, k4, k5⟩ := F.meet hp hr hv
  have n1 := dist_nn F k2 hv
  have t1 := top m k1 (by omega)
  have b1 := F.between hp hr k1 m1 t1
  have e1 := (F.over hp hr mp).2.1.mpr m1
  have tv1 := (F.over hv mp k2).1
  have tv2 := (F.over hv hr mp).1
  have e2 : dist ts v h + dist ts h r = dist ts v r := by omega
  have hin : h ∈ path ts v r := (F.over hv hr mp).2.1.mp e2
  obtain ⟨a, a1, a2, a3, a4, a5⟩ := F.meet hv hr hq
  have q1 := (F.over hq mp a2).1
  have s1 := sy hq a2
  have s2 := sy a2 mp
  have s3 := sy hq hv
  have s4 := sy hr hq
  have s5 := sy hr hp
  rcases Int.le_total (dist ts v h) (dist ts v a) with c | c
  · have b2 := F.between hv hr hin a1 c
    have := dist_nn F hv mp
    omega
  · have b2 := F.between hv hr a1 hin c
    omega
end Far

namespace Far
open PySem PySem.Spec PyProof.Rows L2
open SX (S)
/-! ### helpers taken one after another: the fewest -/
noncomputable def stepG (ts : List Tie) (L : Int) (taken : List Nm) (z : Nm × Nm) : List Nm := if taken.any (nearB ts L z.1) then taken else taken ++ [z.2]
noncomputable def greedy (ts : List Tie) (L : Int) (C : List Nm) (hs : List (Nm × Nm)) : List Nm := hs.foldl (stepG ts L) C
noncomputable def hlps (ts : List Tie) (L : Int) (r : Nm) (os : List Nm) : List (Nm × Nm) := os.map fun p => (p, hlp ts L r p)
theorem greedy_all {pl : List Nm} {ts : List Tie} (F : IsTree pl ts) {L : Int} (hL : 0 ≤ L) {r : Nm} (hr : r ∈ pl) : ∀ (os C : List Nm), (∀ p ∈ os, p ∈ pl) → os.Pairwise (fun x y => dist ts r y ≤ dist ts r x) → (∀ p ∈ C, p ∈ pl) →
    ∃ E : List Nm, greedy ts L C (hlps ts L r os) = C ++ E ∧ (∀ p ∈ E, p ∈ pl) ∧ (∀ p ∈ os, (C ++ E).any (nearB ts L p) = true) ∧ (C.Nodup → (C ++ E).Nodup) ∧
      ∀ S' : List Nm, (∀ p ∈ S', p ∈ pl) → (∀ q ∈ os, C.any (nearB ts L q) = false → S'.any (nearB ts L q) = true) → E.length ≤ S'.length
  | [], C, _, _, _ => ⟨[], by simp [greedy, hlps], (fun _ h => by cases h), (fun _ h => by cases h), (fun h => by simpa using h), fun _ _ _ => Nat.zero_le _⟩
  | p :: os, C, ho, hd, hC => by
    obtain ⟨d1, d2⟩ := List.pairwise_cons.mp hd
    have hp := ho p List.mem_cons_self
    have ho' : ∀ q ∈ os, q ∈ pl := fun q hq => ho q (List.mem_cons_of_mem _ hq)
    have eg : greedy ts L C (hlps ts L r (p :: os)) = greedy ts L (stepG ts L C (p, hlp ts L r p)) (hlps ts L r os) := rfl
    cases c : C.any (nearB ts L p) with
    | true =>
      have e1 : stepG ts L C (p, hlp ts L r p) = C := if_pos c
      obtain ⟨E, h1, h2, h3, h4, h5⟩ := greedy_all F hL hr os C ho' d2 hC
      refine ⟨E, by rw [eg, e1, h1], h2, fun q hq => ?_, h4, fun S' s1 s2 => h5 S' s1 fun q hq => s2 q (List.mem_cons_of_mem _ hq)⟩
      rcases List.mem_cons.mp hq with rfl | hq
      · rw [List.any_append, c]
        rfl
      · exact h3 q hq
    | false =>
      have e1 : stepG ts L C (p, hlp ts L r p) = C ++ [hlp ts L r p] := if_neg (by show ¬ C.any (nearB ts L p) = true; rw [c]; decide)
      obtain ⟨_, i1, i2, i3, i4⟩ := hlp_is F hL hr hp
      obtain ⟨E, h1, h2, h3, h4, h5⟩ := greedy_all F hL hr os (C ++ [hlp ts L r p]) ho' d2 (fun q hq => (List.mem_append.mp hq).elim (hC q) fun z => List.mem_singleton.mp z ▸ i2)
      refine ⟨hlp ts L r p :: E, by rw [eg, e1, h1, List.append_assoc]; rfl, fun q hq => (List.mem_cons.mp hq).elim (fun z => z ▸ i2) (h2 q), fun q hq => ?_, fun nd => ?_, fun S' s1 s2 => ?_⟩
      · have e2 : C ++ hlp ts L r p :: E = C ++ [hlp ts L r p] ++ E := by rw [List.append_assoc]; rfl
        rw [e2]
        rcases List.mem_cons.mp hq with rfl | hq
        · refine List.any_eq_true.mpr ⟨_, List.mem_append_left _ (List.mem_append_right _ (List.mem_singleton.mpr rfl)), decide_eq_true i3⟩
        · exact h3 q hq
      · have e2 : C ++ hlp ts L r p :: E = C ++ [hlp ts L r p] ++ E := by rw [List.append_assoc]; rfl
        rw [e2]
        refine h4 ?_
        rw [List.nodup_append]
        refine ⟨nd, by simp, fun a ha b hb e => ?_⟩
        have hb := List.mem_singleton.mp hb
        have : C.any (nearB ts L p) = true := List.any_eq_true.mpr ⟨a, ha, decide_eq_true (by rw [e, hb]; exact i3)⟩
        rw [c] at this
        cases this
      · obtain ⟨v, hv, nv⟩ := List.any_eq_true.mp (s2 p List.mem_cons_self c)
        have lt : (S'.filter fun t => !nearB ts L p t).length < S'.length := List.length_filter_lt_length_iff_exists.mpr ⟨v, hv, by rw [nv]; decide⟩
        have := h5 (S'.filter fun t => !nearB ts L p t) (fun q hq => s1 q (List.mem_filter.mp hq).1) fun q hq nq => ?_
        · rw [List.length_cons]
          omega
        · rw [List.any_append, Bool.or_eq_false_iff] at nq
          obtain ⟨v', hv', nv'⟩ := List.any_eq_true.mp (s2 q (List.mem_cons_of_mem _ hq) nq.1)
          refine List.any_eq_true.mpr ⟨v', List.mem_filter.mpr ⟨hv', ?_⟩, nv'⟩
          cases np : nearB ts L p v' with
          | false => rfl
          | true =>
            have := helper_near F hL hr hp (ho' q hq) (s1 v' hv') (d1 q hq) (of_decide_eq_true np) (of_decide_eq_true nv')
            have e3 : [hlp ts L r p].any (nearB ts L q) = true := by
              rw [List.any_cons, show nearB ts L q (hlp ts L r p) = true from decide_eq_true this]
              rfl
            rw [e3] at nq
            cases nq.2
/-- places near to all -/
def CovN (pl : List Nm) (ts : List Tie) (L : Int) (S' : List Nm) : Prop := ∀ p ∈ pl, S'.any (nearB ts L p) = true
structure Ord (pl : List Nm) (ts : List Tie) (r : Nm) (os : List Nm) : Prop where
  perm : os.Perm pl
  far : os.Pairwise (fun x y => dist ts r y ≤ dist ts r x)
theorem greedy_is {pl : List Nm} {ts : List Tie} (F : IsTree pl ts) {L : Int} (hL : 0 ≤ L) {r : Nm} (hr : r ∈ pl) {os C : List Nm} (O : Ord pl ts r os) (hC : ∀ p ∈ C, p ∈ pl) (nd : C.Nodup) :
    (greedy ts L C (hlps ts L r os)).Nodup ∧ (∀ p ∈ greedy ts L C (hlps ts L r os), p ∈ pl) ∧ CovN pl ts L (greedy ts L C (hlps ts L r os)) ∧ (∀ p ∈ C, p ∈ greedy ts L C (hlps ts L r os)) ∧
      ∀ S' : List Nm, S'.Nodup → (∀ p ∈ S', p ∈ pl) → CovN pl ts L S' → (∀ p ∈ C, p ∈ S') → (greedy ts L C (hlps ts L r os)).length ≤ S'.length := by
  obtain ⟨E, h1, h2, h3, h4, h5⟩ := greedy_all F hL hr os C (fun p hp => O.perm.mem_iff.mp hp) O.far hC
  rw [h1]
  refine ⟨h4 nd, fun p hp => (List.mem_append.mp hp).elim (hC p) (h2 p), fun p hp => h3 p (O.perm.mem_iff.mpr hp), fun p hp => List.mem_append_left _ hp, fun S' nS s1 s2 s3 => ?_⟩
  have a := h5 (S'.filter fun t => !decide (t ∈ C)) (fun q hq => s1 q (List.mem_filter.mp hq).1) fun q hq nq => by
    obtain ⟨v, hv, nv⟩ := List.any_eq_true.mp (s2 q (O.perm.mem_iff.mp hq))
    refine List.any_eq_true.mpr ⟨v, List.mem_filter.mpr ⟨hv, ?_⟩, nv⟩
    have : v ∉ C := fun z => by
      rw [List.any_eq_true.mpr ⟨v, z, nv⟩] at nq
      cases nq
    simp [this]
  have b : (C ++ S'.filter fun t => !decide (t ∈ C)).length ≤ S'.length := by
    refine List.Nodup.length_le_of_subset ?_ ?_
    · rw [List.nodup_append]
      refine ⟨nd, nS.filter _, fun x hx y hy e => ?_⟩
      have := (List.mem_filter.mp hy).2
      rw [← e] at this
      simp [hx] at this
    · intro x hx
      exact (List.mem_append.mp hx).elim (s3 x) fun z => (List.mem_filter.mp z).1
  rw [List.length_append] at b ⊢
  omega
/-! ### places picked by their numbers -/
def pk (g : Nat → Bool) (s n : Nat) : List Nat := (List.range' s n).filter g
theorem pk_mem {g : Nat → Bool} {s n j : Nat} : j ∈ pk g s n ↔ (s ≤ j ∧ j < s + n) ∧ g j = true := by
  unfold pk
  rw [List.mem_filter, List.mem_range'_1]
theorem pk_nodup (g : Nat → Bool) (s n : Nat) : (pk g s n).Nodup := (List.nodup_range' (step := 1) (h := by decide)).filter _
theorem pk_succ (g : Nat → Bool) (n : Nat) : pk g 0 (n + 1) = pk g 0 n ++ if g n = true then [n] else [] := by
  unfold pk
  rw [List.range'_concat, List.filter_append]
  congr 1
  rw [Nat.one_mul, Nat.zero_add]
  cases c : g n <;> simp [c]
theorem pk_lt {g h : Nat → Bool} : ∀ (n s i : Nat), (pk g s n).length = (pk h s n).length → s ≤ i → i < s + n → (∀ j, s ≤ j → j < i → h j = true → g j = true) → g i = true → h i = false → pk g s n < pk h s n
  | 0, s, i, _, h1, h2, _, _, _ => by omega
  | n + 1, s, i, hl, h1, h2, h3, h4, h5 => by
    have eg : pk g s (n + 1) = if g s = true then s :: pk g (s + 1) n else pk g (s + 1) n := by
      unfold pk
      rw [List.range'_succ, List.filter_cons]
    have eh : pk h s (n + 1) = if h s = true then s :: pk h (s + 1) n else pk h (s + 1) n := by
      unfold pk
      rw [List.range'_succ, List.filter_cons]
    rw [eg, eh] at hl ⊢
    cases cg : g s with
    | true =>
      rw [cg, if_pos rfl] at hl
      rw [if_pos rfl]
      cases ch : h s with
      | true =>
        rw [ch, if_pos rfl, List.length_cons, List.length_cons] at hl
        rw [if_pos rfl, List.cons_lt_cons_iff]
        have ne : i ≠ s := fun z => by rw [z, ch] at h5; cases h5
        exact .inr ⟨rfl, pk_lt n (s + 1) i (by omega) (by omega) (by omega) (fun j a b => h3 j (by omega) b) h4 h5⟩
      | false =>
        rw [ch, if_neg (by decide), List.length_cons] at hl
        rw [if_neg (by decide)]
        cases e : pk h (s + 1) n with
        | nil => rw [e] at hl; simp at hl
        | cons y r =>
          have : y ∈ pk h (s + 1) n := by rw [e]; exact List.mem_cons_self
          have := (pk_mem.mp this).1.1
          rw [List.cons_lt_cons_iff]
          exact .inl (by omega)
    | false =>
      have ne : i ≠ s := fun z => by rw [z, cg] at h4; cases h4
      cases ch : h s with
      | true =>
        have := h3 s (Nat.le_refl _) (by omega) ch
        rw [cg] at this
        cases this
      | false =>
        rw [cg, ch, if_neg (by decide), if_neg (by decide)] at hl
        rw [if_neg (by decide), if_neg (by decide)]
        exact pk_lt n (s + 1) i hl (by omega) (by omega) (fun j a b => h3 j (by omega) b) h4 h5
def nm (pl : List Nm) (j : Nat) : Nm := pl.getD j []
def nms (pl : List Nm) (js : List Nat) : List Nm := js.map (nm pl)
theorem nm_mem {pl : List Nm} {j : Nat} (h : j < pl.length) : nm pl j ∈ pl ∧ pl[j]? = some (nm pl j) := by
  have e : pl[j]? = some (nm pl j) := by
    unfold nm
    rw [List.getD_eq_getElem?_getD, List.getElem?_eq_getElem h]
    rfl
  exact ⟨List.mem_of_getElem? e, e⟩
theorem nm_inj {pl : List Nm} (nd : pl.Nodup) {i j : Nat} (hi : i < pl.length) (hj : j < pl.length) (e : nm pl i = nm pl j) : i = j := by
  have a := (nm_mem hi).2
  have b := (nm_mem hj).2
  rw [e] at a
  exact (List.getElem?_inj hi nd).mp (a.trans b.symm)
theorem nm_of {pl : List Nm} {x : Nm} (h : x ∈ pl) : ∃ j < pl.length, nm pl j = x := by
  obtain ⟨j, hj, e⟩ := List.getElem_of_mem h
  refine ⟨j, hj, ?_⟩
  unfold nm
  rw [List.getD_eq_getElem?_getD, List.getElem?_eq_getElem hj]
  exact e
theorem nms_ok {pl : List Nm} (nd : pl.Nodup) {js : List Nat} (hj : ∀ j ∈ js, j < pl.length) (n : js.Nodup) : (nms pl js).Nodup ∧ ∀ p ∈ nms pl js, p ∈ pl := by
  constructor
  · exact List.pairwise_map.mpr (n.imp_of_mem fun {a b} ha hb ne e => ne (nm_inj nd (hj a ha) (hj b hb) e))
  · intro p hp
    obtain ⟨j, h, rfl⟩ := List.mem_map.mp hp
    exact (nm_mem (hj j h)).1
def Cv (pl : List Nm) (ts : List Tie) (L : Int) (g : Nat → Bool) : Prop := ∀ k < pl.length, ∃ a < pl.length, g a = true ∧ dist ts (nm pl a) (nm pl k) ≤ L
theorem cv_cov {pl : List Nm} {ts : List Tie} (F : IsTree pl ts) {L : Int} {g : Nat → Bool} (h : Cv pl ts L g) : CovN pl ts L (nms pl (pk g 0 pl.length)) := by
  intro p hp
  obtain ⟨k, hk, rfl⟩ := nm_of hp
  obtain ⟨a, ha, ga, d⟩ := h k hk
  refine List.any_eq_true.mpr ⟨nm pl a, List.mem_map_of_mem (pk_mem.mpr ⟨⟨Nat.zero_le _, by omega⟩, ga⟩), decide_eq_true ?_⟩
  rw [(F.dist_symm (nm_mem hk).1 (nm_mem ha).1).1]
  exact d
theorem cov_cv {pl : List Nm} {ts : List Tie} (F : IsTree pl ts) {L : Int} {S' : List Nm} (hs : ∀ p ∈ S', p ∈ pl) (h : CovN pl ts L S') : Cv pl ts L fun j => decide (nm pl j ∈ S') := by
  intro k hk
  obtain ⟨v, hv, nv⟩ := List.any_eq_true.mp (h _ (nm_mem hk).1)
  obtain ⟨a, ha, rfl⟩ := nm_of (hs v hv)
  refine ⟨a, ha, decide_eq_true hv, ?_⟩
  rw [(F.dist_symm (nm_mem ha).1 (nm_mem hk).1).1]
  exact of_decide_eq_true nv
theorem pk_len {pl S' : List Nm} (nd : pl.Nodup) (nS : S'.Nodup) (hs : ∀ p ∈ S', p ∈ pl) : (pk (fun j => decide (nm pl j ∈ S')) 0 pl.length).length = S'.length := by
  have lt : ∀ j ∈ pk (fun j => decide (nm pl j ∈ S')) 0 pl.length, j < pl.length := fun j hj => by have := (pk_mem.mp hj).1; omega
  have p : (nms pl (pk (fun j => decide (nm pl j ∈ S')) 0 pl.length)).Perm S' := by
    refine (List.perm_ext_iff_of_nodup (nms_ok nd lt (pk_nodup _ _ _)).1 nS).mpr fun x => ⟨fun hx => ?_, fun hx => ?_⟩
    · obtain ⟨j, hj, rfl⟩ := List.mem_map.mp hx
      exact of_decide_eq_true (pk_mem.mp hj).2
    · obtain ⟨j, hj, rfl⟩ := nm_of (hs x hx)
      exact List.mem_map_of_mem (pk_mem.mpr ⟨⟨Nat.zero_le _, by omega⟩, decide_eq_true hx⟩)
  have := p.length_eq
  rw [nms, List.length_map] at this
  exact this
/-- fewer, or as many and ahead -/
def Better (I J : List Nat) : Prop := I.length < J.length ∨ (I.length ≤ J.length ∧ I < J)
theorem fewest_first {pl : List Nm} {ts : List Tie} (F : IsTree pl ts) {L : Int} (hL : 0 ≤ L) {r : Nm} (hr : r ∈ pl) {os : List Nm} (O : Ord pl ts r os) {g : Nat → Bool} (hg : Cv pl ts L g) (top : ∀ h, Cv pl ts L h → ¬ Better (pk h 0 pl.length) (pk g 0 pl.length)) :
    (greedy ts L [] (hlps ts L r os)).length = (pk g 0 pl.length).length ∧
      ∀ i < pl.length, ((greedy ts L (nms pl (pk g 0 i) ++ [nm pl i]) (hlps ts L r os)).length = (pk g 0 pl.length).length ↔ g i = true) := by
  have nd := F.nodup
  have all : ∀ S' : List Nm, S'.Nodup → (∀ p ∈ S', p ∈ pl) → CovN pl ts L S' → (pk g 0 pl.length).length ≤ S'.length := fun S' n1 n2 n3 => by
    have := top _ (cov_cv F n2 n3)
    rw [← pk_len nd n1 n2]
    exact Nat.le_of_not_lt fun z => this (.inl z)
  have lt : ∀ n ≤ pl.length, ∀ j ∈ pk g 0 n, j < pl.length := fun n hn j hj => by have := (pk_mem.mp hj).1; omega
  obtain ⟨B1, B2⟩ := nms_ok nd (lt _ (Nat.le_refl _)) (pk_nodup g 0 pl.length)
  have B3 := cv_cov F hg
  have lB : (nms pl (pk g 0 pl.length)).length = (pk g 0 pl.length).length := List.length_map ..
  constructor
  · obtain ⟨a1, a2, a3, _, a5⟩ := greedy_is F hL hr O (C := []) (fun _ h => by cases h) List.nodup_nil
    have := a5 _ B1 B2 B3 (fun _ h => by cases h)
    have := all _ a1 a2 a3
    omega
  · intro i hi
    obtain ⟨c1, c2⟩ := nms_ok nd (js := pk g 0 i ++ [i]) (fun j hj => (List.mem_append.mp hj).elim (lt i (by omega) j) fun z => by rw [List.mem_singleton.mp z]; exact hi) (by
      rw [List.nodup_append]
      refine ⟨pk_nodup _ _ _, by simp, fun a ha b hb e => ?_⟩
      have := (pk_mem.mp ha).1
      have := List.mem_singleton.mp hb
      omega)
    have ec : nms pl (pk g 0 i ++ [i]) = nms pl (pk g 0 i) ++ [nm pl i] := by unfold nms; rw [List.map_append]; rfl
    rw [ec] at c1 c2
    obtain ⟨a1, a2, a3, a4, a5⟩ := greedy_is F hL hr O c2 c1
    have lo := all _ a1 a2 a3
    constructor
    · intro e
      cases gi : g i with
      | true => rfl
      | false =>
        exfalso
        refine top _ (cov_cv F a2 a3) (.inr ⟨by rw [pk_len nd a1 a2, e]; exact Nat.le_refl _, ?_⟩)
        refine pk_lt pl.length 0 i (by rw [pk_len nd a1 a2, e]) (Nat.zero_le _) (by omega) (fun j _ hj gj => ?_) ?_ gi
        · exact decide_eq_true (a4 _ (List.mem_append_left _ (List.mem_map_of_mem (pk_mem.mpr ⟨⟨Nat.zero_le _, by omega⟩, gj⟩))))
        · exact decide_eq_true (a4 _ (List.mem_append_right _ (List.mem_singleton.mpr rfl)))
    · intro gi
      have := a5 _ B1 B2 B3 fun p hp => ?_
      · omega
      · rcases List.mem_append.mp hp with z | z
        · obtain ⟨j, hj, rfl⟩ := List.mem_map.mp z
          have := pk_mem.mp hj
          exact List.mem_map_of_mem (pk_mem.mpr ⟨⟨Nat.zero_le _, by omega⟩, this.2⟩)
        · rw [List.mem_singleton.mp z]
          exact List.mem_map_of_mem (pk_mem.mpr ⟨⟨Nat.zero_le _, by omega⟩, gi⟩)
end Far

namespace Far
open PySem PySem.Spec PyProof.Rows L2
/-! ### whole numbers from 0 on by their bits; rows of whole numbers in their order -/
theorem pow2_cast (k : Nat) : (2 : Int) ^ k = ((2 ^ k : Nat) : Int) := by
  induction k with
  | zero => rfl
  | succ k ih => rw [Int.pow_succ, ih, Nat.pow_succ]; omega
theorem bor_nat (a b : Nat) : Builtin.bitOr (a : Int) (b : Int) = ((a ||| b : Nat) : Int) := by
  rw [PyProof.Rows.bitOr_and, PySem.W.os_band]
  have := PyProof.Rows.nat_or_add_and a b
  omega
section
variable {X : Cx}
theorem op_oneShlK : OpR X (binaryOp .LShift) (fun x y H Q => ∃ k : Nat, x = .int 1 ∧ y = .int (k : Int) ∧ k ≤ 1000 ∧ Q (.int ((2 ^ k : Nat) : Int)) H) := by
  intro pins s σ H x y v u Q I rx ry h
  obtain ⟨k, rfl, rfl, c, q⟩ := h
  rw [← pow2_cast] at q
  exact op_oneShl pins s σ H _ _ v u Q I rx ry ⟨k, rfl, rfl, by omega, q⟩
theorem op_shrK : OpR X (binaryOp .RShift) (fun x y H Q => ∃ n k : Nat, x = .int (n : Int) ∧ y = .int (k : Int) ∧ Q (.int ((n / 2 ^ k : Nat) : Int)) H) := by
  intro pins s σ H x y v u Q I rx ry h
  obtain ⟨n, k, rfl, rfl, q⟩ := h
  refine op_shrN pins s σ H _ _ v u Q I rx ry ⟨n, k, rfl, rfl, ?_⟩
  rw [pow2_cast]
  exact q
theorem op_orK : OpR X (binaryOp .BitOr) (fun x y H Q => ∃ a b : Nat, x = .int (a : Int) ∧ y = .int (b : Int) ∧ Q (.int ((a ||| b : Nat) : Int)) H) := by
  intro pins s σ H x y v u Q I rx ry h
  obtain ⟨a, b, rfl, rfl, q⟩ := h
  refine op_or pins s σ H _ _ v u Q I rx ry ⟨a, b, rfl, rfl, ?_⟩
  show Q (.int (Builtin.bitOr (a : Int) (b : Int))) H
  rw [bor_nat]
  exact q
theorem dp_ints {K : PySem.W.Frag} {H : Hp} : ∀ ns : List Int, DpAll K H (ns.map V.int) (ns.map PyData.int)
  | [] => .nil
  | n :: r => .cons (.int n) (dp_ints r)
def rLtL (K : PySem.W.Frag) : R2 := fun x y H Q => ∃ (a b : Addr) (xs ys : List Int), x = .ref a ∧ y = .ref b ∧ SqL K H a (xs.map V.int) ∧ SqL K H b (ys.map V.int) ∧ Q (.bl (decide (xs < ys))) H
theorem ints_alike : ∀ xs ys : List Int, PySem.W.alikeAll (xs.map PyData.int) (ys.map PyData.int) = true
  | [], [] => by simp [PySem.W.alikeAll]
  | x :: xs, y :: ys => by
    have := ints_alike xs ys
    simp [PySem.W.alikeAll, PySem.W.alike, this]
  | [], _ :: _ => by simp [PySem.W.alikeAll]
  | _ :: _, [] => by simp [PySem.W.alikeAll]
theorem ints_depth : ∀ xs : List Int, PyData.depthAll (xs.map PyData.int) = 0
  | [] => rfl
  | x :: xs => by
    show max 0 (PyData.depthAll (xs.map PyData.int)) = 0
    rw [ints_depth xs]
    rfl
theorem op_ltL {K : PySem.W.Frag} (hu : X.A.units + 64 < cLine) (eK : X.K = K := by rfl) : OpR X (compareOp .Lt) (rLtL K) := by
  subst eK
  intro pins s σ H x y v u Q I rx ry h
  obtain ⟨a, b, xs, ys, rfl, rfl, hx, hy, q⟩ := h
  obtain ⟨as, r1⟩ := Dp.reads I (.list (xs.map .int)) (.ref a) v (.lst hx (dp_ints xs)) rx
  obtain ⟨bs, r2⟩ := Dp.reads I (.list (ys.map .int)) (.ref b) u (.lst hy (dp_ints ys)) ry
  have e : PySem.W.dataLt (.list (xs.map .int)) (.list (ys.map .int)) = decide (xs < ys) := by
    rw [PySem.W.dataLt_list]
    exact PySem.W.dataLt_ints xs ys
  refine PySem.W.lt_data r1 r2 (by unfold PySem.W.alike; exact ints_alike xs ys) (fun z => by cases z) ?_ ?_
  · have d : (PyData.list (xs.map .int)).depth = 1 := by
      show PyData.depthAll (xs.map PyData.int) + 1 = 1
      rw [ints_depth]
    rw [d]
    omega
  · rw [e]
    exact ⟨.bl _, H, I, rfl, q⟩
end
end Far

namespace Far
open PySem PySem.Spec PyProof.Rows L2
open C8 (pss_cut tCut)
open SX (S)
open RZ (ItzT iZipA pi_zipA)
abbrev s_places_near : Stmt := topS 15
abbrev N_places_near : List Str := ["tree", "place", "length", "lengths", "other", "apart"]
theorem sc_places_near : FnScope N_places_near ["tree", "place", "length"] (defScope s_places_near) := ⟨rfl, rfl, rfl, by decide +kernel, rfl, by decide +kernel, by decide +kernel⟩
abbrev s_helpers : Stmt := topS 16
abbrev N_helpers : List Str := ["tree", "near", "first", "told", "_", "place", "on_way", "there"]
theorem sc_helpers : FnScope N_helpers ["tree", "near"] (defScope s_helpers) := ⟨rfl, rfl, rfl, by decide +kernel, rfl, by decide +kernel, by decide +kernel⟩
abbrev s_fewest_with : Stmt := topS 17
abbrev N_fewest_with : List Str := ["chosen", "near", "helpers", "taken", "place", "helper", "there"]
theorem sc_fewest_with : FnScope N_fewest_with ["chosen", "near", "helpers"] (defScope s_fewest_with) := ⟨rfl, rfl, rfl, by decide +kernel, rfl, by decide +kernel, by decide +kernel⟩
abbrev s_fewest_within : Stmt := topS 14
abbrev N_fewest_within : List Str := ["tree", "length", "place", "near", "helpers", "fewest", "chosen"]
theorem sc_fewest_within : FnScope N_fewest_within ["tree", "length"] (defScope s_fewest_within) := ⟨rfl, rfl, rfl, by decide +kernel, rfl, by decide +kernel, by decide +kernel⟩
structure TxtF (mg : Str → Option Value) : Prop where
  zip : mg "zip" = none
  sorted : mg "sorted" = none
  list : mg "list" = none
  any : mg "any" = none
  len : mg "len" = none
  tuple : mg "tuple" = none
noncomputable def nearL (pl : List Nm) (ts : List Tie) (L : Int) (u : Nm) : List Nm := pl.filter (nearB ts L u)
structure NearAt (H : Hp) (D : Addr) (pl fs : List Nm) (ts : List Tie) (L : Int) (ad : Nm → Addr) : Prop where
  dict : H D = some (.dK (dkm fs fun x => .ref (ad x)))
  each : ∀ x ∈ fs, H (ad x) = some (.lst (((nearL pl ts L x).map S).map V.str))
theorem NearAt.keep {H H' : Hp} {D : Addr} {pl fs : List Nm} {ts : List Tie} {L : Int} {ad : Nm → Addr} (h : NearAt H D pl fs ts L ad) (s : Same H H') : NearAt H' D pl fs ts L ad := ⟨s _ _ h.dict, fun x hx => s _ _ (h.each x hx)⟩
theorem perm_of_map {α β : Type} {f : α → β} {xs ys : List β} (p : ys.Perm xs) : ∀ {l : List α}, l.map f = xs → ∃ m : List α, m.Perm l ∧ m.map f = ys := by
  induction p with
  | nil =>
    intro l h
    exact ⟨l, .refl _, h⟩
  | @cons x l1 l2 _ ih =>
    intro l h
    cases l with
    | nil => cases h
    | cons a r =>
      obtain ⟨h1, h2⟩ := List.cons.inj h
      obtain ⟨m, pm, em⟩ := ih h2
      exact ⟨a :: m, pm.cons a, by rw [List.map_cons, em, h1]⟩
  | swap x y l0 =>
    intro l h
    cases l with
    | nil => cases h
    | cons a r =>
      cases r with
      | nil => cases (List.cons.inj h).2
      | cons b r =>
        obtain ⟨h1, h2⟩ := List.cons.inj h
        obtain ⟨h3, h4⟩ := List.cons.inj h2
        exact ⟨b :: a :: r, List.Perm.swap a b r, by rw [List.map_cons, List.map_cons, h1, h3, h4]⟩
  | trans _ _ ih1 ih2 =>
    intro l h
    obtain ⟨m, pm, em⟩ := ih2 h
    obtain ⟨m2, pm2, em2⟩ := ih1 em
    exact ⟨m2, pm2.trans pm, em2⟩
/-- pairs of texts, one after another -/
inductive HlpAt (H : Hp) : List V → List (Nm × Nm) → Prop
  | nil : HlpAt H [] []
  | cons {p : Addr} {z : Nm × Nm} {us : List V} {hs : List (Nm × Nm)} : H p = some (.tup [.str (S z.1), .str (S z.2)]) → HlpAt H us hs → HlpAt H (.ref p :: us) (z :: hs)
theorem HlpAt.keep {H H' : Hp} (k : ∀ p xs, H p = some (.tup xs) → H' p = some (.tup xs)) {us : List V} {hs : List (Nm × Nm)} (h : HlpAt H us hs) : HlpAt H' us hs := by
  induction h with
  | nil => exact .nil
  | cons e _ ih => exact .cons (k _ _ e) ih
theorem HlpAt.snoc {H : Hp} {p : Addr} {z : Nm × Nm} (e : H p = some (.tup [.str (S z.1), .str (S z.2)])) {us : List V} {hs : List (Nm × Nm)} (h : HlpAt H us hs) : HlpAt H (us ++ [.ref p]) (hs ++ [z]) := by
  induction h with
  | nil => exact .cons e .nil
  | cons e2 _ ih => exact .cons e2 ih
theorem HlpAt.len {H : Hp} {us : List V} {hs : List (Nm × Nm)} (h : HlpAt H us hs) : us.length = hs.length := by
  induction h with
  | nil => rfl
  | cons _ _ ih => rw [List.length_cons, List.length_cons, ih]
theorem HlpAt.get {H : Hp} {us : List V} {hs : List (Nm × Nm)} (h : HlpAt H us hs) : ∀ {i : Nat} {v : V}, us[i]? = some v → ∃ (p : Addr) (z : Nm × Nm), hs[i]? = some z ∧ v = .ref p ∧ H p = some (.tup [.str (S z.1), .str (S z.2)]) := by
  induction h with
  | nil => intro i v e; simp at e
  | @cons p z us hs e2 _ ih =>
    intro i v e
    cases i with
    | zero => exact ⟨p, z, rfl, (Option.some.inj e).symm, e2⟩
    | succ i => exact ih (i := i) e
theorem zip_map (pl : List Nm) (f : Nm → Int) (g : Nm → Str) : (pl.map f).zip (pl.map g) = pl.map fun x => (f x, g x) := by
  induction pl with
  | nil => rfl
  | cons x r ih => simp [ih]
section
variable {P : Program} {w : World} {K : PySem.W.Frag} {mg : Str → Option Value} {base : Heap}
def spNear : Sp := fun vs H Q _ => ∃ (v : V) (pl : List Nm) (ts : List Tie) (u : Nm) (L : Int), vs = [v, .str (S u), .int L] ∧ Dt H v (treeD pl ts) ∧ Fine pl ts ∧ u ∈ pl ∧ 0 ≤ L ∧ ∀ (H' : Hp) (q : Addr), Same H H' → H q = none → H' q = some (.lst (((nearL pl ts L u).map S).map V.str)) → Q (.ref q) H'
theorem ok_places_near {f : Addr} {fd : FuncData} (F : Fun K "_places_near" "_places_near" s_places_near f fd) (T : TxtF mg) (Clengths_from : Cal P w K mg base 3 "lengths_from" spLens) : FnOk P w K mg base CX0 4 f fd ["tree", "place", "length"] spNear := by
  refine F.ok sc_places_near (fun vs H Q E h => ?_) (fun cdv A outer s H vs Q E hr h => ?_)
  · obtain ⟨v, pl, ts, u, L, rfl, _⟩ := h
    rfl
  · obtain ⟨v, pl, ts, u, L, rfl, hd, fine, hu, hL, q⟩ := h
    obtain ⟨t, a, b, vs, rfl, ht, ha, hb, hA⟩ := dt_tree hd
    have pl1 := fine.len
    refine ⟨_, (pss_cons (ps_set (i := 3) sc_places_near.nd rfl (.inl rfl) (pe_c Clengths_from hr (by decide) rfl (pa_cons (pv 0) (pa_cons (pv 1) pa_nil))))
      (pss_one (ps_ret (pe_lc (own := [("other", 4), ("apart", 5)]) (g := gTup K 2 (gCons (gName 4) (gCons (gName 5) gNil)))  rfl sc_places_near.nd (pi_zipA (by rfl) T.zip (pa_cons (pe_ix ix_tup (pv 0) pe_int (fun _ _ => rfl)) (pa_cons (pv 3) pa_nil))) (blkOk_by (N := N_places_near) (sc := defScope s_places_near) (by decide +kernel)) (fun _ _ _ _ _ => (pg_tup rfl (pgs_cons (pg_name (i := 4) sc_places_near.nd rfl (.inl rfl)) (pgs_cons (pg_name (i := 5) sc_places_near.nd rfl (.inl rfl)) pgs_nil)))) (fun _ _ _ _ _ => pts_one (PW.pt (pw_or (pt_cmpR op_eq (pv 4) (pv 1) (nomark _)) (pw_or1 (pt_cmpR op_le (pv 5) (pv 2) (nomark _)))))) (fun _ _ _ _ _ => (pv 4)))))), ?_⟩
    refine ⟨_, rfl, _, rfl, _, pl, ts, u, rfl, hd, fine, hu, fun H1 g s1 ng hg => ?_⟩
    refine ⟨_, rfl, t, _, 0, .ref a, rfl, rfl, SqT.of (s1 _ _ ht), atI_nat (j := 0) rfl, _, rfl, a, g, _, _, rfl, .inr ⟨(ha.same s1).sq, SqT.of hg, fun D nD => ?_⟩⟩
    refine zip_it (by simp) (fun i H'' => Same H H'' ∧ H'' g = some (.tup (pl.map fun x => .int (dist ts u x))) ∧ H'' D = some (.lst (((nearL (pl.take i) ts L u).map S).map V.str))) ⟨same_new s1 nD, by rw [upd_ne (ne_of_none hg nD)]; exact hg, upd_same⟩ (fun i H'' hP => ⟨(ha.same hP.1).sq, SqT.of hP.2.1⟩) (fun i x y H'' T hx hy hP nT => ?_) (fun H'' hP => ?_)
    · obtain ⟨S2, hg2, hD⟩ := hP
      obtain ⟨l, hl, ml, rfl, ex⟩ := at_name hx
      rw [List.getElem?_map, hl] at hy
      have ey : y = .int (dist ts u l) := (Option.some.inj hy).symm
      subst ey
      have il := (List.getElem?_eq_some_iff.mp hl).1
      have TD : D ≠ T := ne_of_none hD nT
      have Tg : g ≠ T := ne_of_none hg2 nT
      refine ⟨T, _, rfl, SqT.of upd_same, rfl, _, _, rfl, _, _, rfl, rfl, rfl, ?_⟩
      have gl : (nearL (pl.take i) ts L u).length ≤ 1000 := by
        have := List.length_filter_le (nearB ts L u) (pl.take i)
        rw [List.length_take] at this
        unfold nearL
        omega
      have SM := same_new (o := .tup [V.str (S l), .int (dist ts u l)]) S2 nT
      have put : nearB ts L u l = true → ∃ acc, (upd H'' T (.tup [V.str (S l), .int (dist ts u l)])) D = some (.lst acc) ∧ acc.length < sizeLine ∧ Same H (upd (upd H'' T (.tup [V.str (S l), .int (dist ts u l)])) D (.lst (acc ++ [.str (S l)]))) ∧
          upd (upd H'' T (.tup [V.str (S l), .int (dist ts u l)])) D (.lst (acc ++ [.str (S l)])) g = some (.tup (pl.map fun x => .int (dist ts u x))) ∧ upd (upd H'' T (.tup [V.str (S l), .int (dist ts u l)])) D (.lst (acc ++ [.str (S l)])) D = some (.lst (((nearL (pl.take (i + 1)) ts L u).map S).map V.str)) := fun c => by
        refine ⟨_, by rw [upd_ne TD]; exact hD, by rw [List.length_map, List.length_map]; exact sz_lt (by omega), same_put SM (s1.free nD), by rw [upd_ne (ne_of_none hg nD), upd_ne Tg]; exact hg2, ?_⟩
        rw [upd_same, ex]
        unfold nearL
        rw [List.filter_append, List.filter_cons_of_pos c, List.map_append, List.map_append]
        rfl
      by_cases e : l = u
      · refine ⟨_, rfl, _, rfl, rfl, _, rfl, ?_⟩
        rw [e, decide_eq_true rfl]
        refine iteT (iteT ⟨_, rfl, ?_⟩)
        rw [e] at put
        exact put (by unfold nearB; rw [(fine.tree.dist_self u).1]; exact decide_eq_true hL)
      · refine ⟨_, rfl, _, rfl, rfl, _, rfl, ?_⟩
        rw [decide_eq_false (fun z => e (SX.S_inj (V.str.inj z)))]
        refine iteF ⟨_, rfl, _, rfl, _, _, rfl, rfl, _, rfl, ?_⟩
        by_cases c : dist ts u l ≤ L
        · rw [decide_eq_true c]
          exact iteT ⟨_, rfl, put (decide_eq_true c)⟩
        · rw [decide_eq_false c]
          refine iteF ⟨SM, by rw [upd_ne Tg]; exact hg2, ?_⟩
          rw [upd_ne TD, ex]
          unfold nearL at *
          rw [List.filter_append, List.filter_cons_of_neg (by unfold nearB; rw [decide_eq_false c]; decide)]
          simpa using hD
    · obtain ⟨S2, hg2, hD⟩ := hP
      rw [List.length_map, List.length_map, List.take_length] at hD
      exact q H'' D S2 (s1.free nD) hD
def spHelpers : Sp := fun vs H Q _ => ∃ (v : V) (D : Addr) (pl : List Nm) (ts : List Tie) (L : Int) (ad : Nm → Addr), vs = [v, .ref D] ∧ Dt H v (treeD pl ts) ∧ Fine pl ts ∧ 0 ≤ L ∧ NearAt H D pl pl ts L ad ∧
  ∀ (H' : Hp) (q : Addr) (os : List Nm) (us : List V), Same H H' → H q = none → Ord pl ts (nm pl 0) os → H' q = some (.lst us) → HlpAt H' us (hlps ts L (nm pl 0) os) → Q (.ref q) H'
theorem ok_helpers {f : Addr} {fd : FuncData} (F : Fun K "_helpers" "_helpers" s_helpers f fd) (T : TxtF mg) (Clengths_from : Cal P w K mg base 3 "lengths_from" spLens) (Cway_between : Cal P w K mg base 3 "way_between" spWay) : FnOk P w K mg base CX0 4 f fd ["tree", "near"] spHelpers := by
  refine F.ok sc_helpers (fun vs H Q E h => ?_) (fun cdv A outer s H vs Q E hr h => ?_)
  · obtain ⟨v, D, pl, ts, L, ad, rfl, _⟩ := h
    rfl
  · obtain ⟨v, D, pl, ts, L, ad, rfl, hd, fine, hL, hN, q⟩ := h
    obtain ⟨t, a, b, vs, rfl, ht, ha, hb, hA⟩ := dt_tree hd
    have pl1 := fine.len
    have ne : 0 < pl.length := by have := fine.tree.len; omega
    obtain ⟨r1, r2⟩ := nm_mem ne
    have er : ((pl.map S).map V.str)[0]? = some (.str (S (nm pl 0))) := by rw [List.getElem?_map, List.getElem?_map, r2]; rfl
    generalize nm pl 0 = r at *
    refine ⟨_, (pss_cons (ps_set (i := 2) sc_helpers.nd rfl (.inl rfl) (pe_ix ix_tup (pe_ix ix_tup (pv 0) pe_int (fun _ _ => rfl)) pe_int (fun _ _ => rfl)))
      (pss_cons (ps_set (i := 3) sc_helpers.nd rfl (.inl rfl) (pe_lst pa_nil))
      (pss_cut (ps_for PassesOwn.never rfl (pi_list (pe_sortZip (hr.mono (by decide)) (by rfl) T.sorted (by rfl) T.zip (pa_cons (pe_c Clengths_from hr (by decide) rfl (pa_cons (pv 0) (pa_cons (pv 2) pa_nil))) (pa_cons (pe_ix ix_tup (pv 0) pe_int (fun _ _ => rfl)) pa_nil)))) (pg_tup rfl (pgs_cons (pg_name (i := 4) sc_helpers.nd rfl (.inl rfl)) (pgs_cons (pg_name (i := 5) sc_helpers.nd rfl (.inr rfl)) pgs_nil)))
        (pss_cons (ps_setLc (i := 6) (own := [("there", 7)]) (g := gName 7)  rfl sc_helpers.nd rfl rfl (sw_true rfl rfl rfl (by decide +kernel)) (pi_tup (pe_c Cway_between hr (by decide) rfl (pa_cons (pv 0) (pa_cons (pv 5) (pa_cons (pv 2) pa_nil))))) (blkOk_by (N := N_helpers) (sc := defScope s_helpers) (by decide +kernel)) (fun _ _ _ _ _ => pg_name (i := 7) sc_helpers.nd rfl (Or.inl rfl)) (fun _ _ _ _ _ => pts_one (pt_cmpR (inK (K := K)) (pv 7) (pe_dget (hu_of hr) (pv 1) (pv 5) (fun _ _ => rfl)) rfl)) (fun _ _ _ _ _ => (pv 7)))
        (pss_one (ps_expr (pe_bm PySem.F.plainAttrs_list PySem.F.slot_list_append PySem.F.type_list_append mt_append (pv 3) (pa_cons (pe_tup (pa_cons (pv 5) (pa_cons (pe_ix ix_list (pv 6) (pe_un un_neg pe_int) (fun _ _ => rfl)) pa_nil))) pa_nil))))))
      (pss_one (ps_ret (pv 3)))))), ?_⟩
    refine ⟨_, rfl, t, _, 0, .ref a, rfl, rfl, SqT.of ht, atI_nat (j := 0) rfl, a, _, 0, .str (S r), rfl, rfl, ha.sq, atI_nat (j := 0) er, ?_⟩
    refine ⟨Nat.zero_le _, fun T nT => ?_⟩
    have S1 := same_new (o := .lst []) (Same.refl H) nT
    have hT1 : (upd H T (.lst [])) T = some (.lst []) := upd_same
    refine ⟨fun σ' H' => ∃ (x4 x5 x6 x7 : Option V) (os : List Nm) (us : List V), σ' = [some (.ref t), some (.ref D), some (.str (S r)), some (.ref T), x4, x5, x6, x7] ∧ Same H H' ∧ Ord pl ts r os ∧ H' T = some (.lst us) ∧ HlpAt H' us (hlps ts L r os), ?_, fun σ' H' hM => ?_⟩
    · refine ⟨_, rfl, _, rfl, _, pl, ts, r, rfl, Dt.keep (TK.of S1) hd, fine, r1, fun H2 g s2 ng hg => ?_⟩
      have S2 := S1.trans s2
      refine ⟨_, rfl, t, _, 0, .ref a, rfl, rfl, SqT.of (S2 _ _ ht), atI_nat (j := 0) rfl, g, a, pl.map (dist ts r), pl.map S, rfl, by rw [List.map_map]; exact SqT.of hg, (ha.same S2).sq, by simp, by rw [List.length_map]; exact sz_lt (by omega), fun l H3 bs nl s3 hl pm pw hbs => ?_⟩
      rw [zip_map] at pm
      obtain ⟨os, po, eo⟩ := perm_of_map (f := fun x => (dist ts r x, S x)) pm rfl
      have O : Ord pl ts r os := ⟨po, by
        have e : bs.map (·.2.1) = os.map (dist ts r) := by
          have : bs.map (·.2.1) = (bs.map (·.2)).map (·.1) := by rw [List.map_map]; rfl
          rw [this, ← eo, List.map_map]
          rfl
        rw [e] at pw
        exact List.pairwise_map.mp pw⟩
      have ol : os.length = pl.length := po.length_eq
      have bl : bs.length = os.length := by
        have := congrArg List.length eo
        rw [List.length_map, List.length_map] at this
        exact this.symm
      have S3 := S2.trans s3
      have hT3 := s3 _ _ (s2 _ _ hT1)
      have Tl : T ≠ l := ne_of_none (s2 _ _ hT1) nl
      refine ⟨l, rfl, ⟨_, SqL.of hl⟩, ?_⟩
      refine for_list (K := K) (a := l) (xs := bs.map fun z => V.ref z.1) (fun i σ' H' => ∃ (x4 x5 x6 x7 : Option V) (us : List V), σ' = [some (.ref t), some (.ref D), some (.str (S r)), some (.ref T), x4, x5, x6, x7] ∧ Same H H' ∧ H' l = some (.lst (bs.map fun z => V.ref z.1)) ∧ (∀ z ∈ bs, H' z.1 = some (.tup [.int z.2.1, .str z.2.2])) ∧ H' T = some (.lst us) ∧ HlpAt H' us (hlps ts L r (os.take i)))
        ⟨_, _, _, _, [], rfl, S3, hl, hbs, hT3, .nil⟩ (fun i σ' H' _ hP => ?_) (fun i x σ' H' hi hP => ?_) (fun σ' H' hP => ?_)
      · obtain ⟨_, _, _, _, _, _, _, h1, _⟩ := hP
        exact SqL.of h1
      · obtain ⟨x4, x5, x6, x7, us, rfl, S4, hl4, hbs4, hT4, hU⟩ := hP
        rw [List.getElem?_map] at hi
        cases eb : bs[i]? with
        | none => rw [eb] at hi; cases hi
        | some z =>
          rw [eb] at hi
          have ex : x = .ref z.1 := (Option.some.inj hi).symm
          subst ex
          have mz := List.mem_of_getElem? eb
          have eo2 := congrArg (fun l => l[i]?) eo
          simp only [List.getElem?_map, eb] at eo2
          cases ep : os[i]? with
          | none => rw [ep] at eo2; cases eo2
          | some p =>
            rw [ep] at eo2
            have ezp : (dist ts r p, S p) = z.2 := Option.some.inj eo2
            have hz := hbs4 z mz
            rw [← ezp] at hz
            have mp : p ∈ pl := po.mem_iff.mp (List.mem_of_getElem? ep)
            have et : os.take (i + 1) = os.take i ++ [p] := by rw [List.take_add_one, ep]; rfl
            have il := (List.getElem?_eq_some_iff.mp ep).1
            refine ⟨z.1, _, rfl, SqT.of hz, rfl, _, _, rfl, _, _, rfl, rfl, ?_⟩
            refine ⟨_, rfl, _, rfl, _, rfl, _, pl, ts, p, r, rfl, Dt.keep (TK.of S4) hd, fine, mp, r1, fun H5 w s5 nw hw => ?_⟩
            have S5 := S4.trans s5
            have hN5 := hN.keep S5
            refine ⟨w, rfl, ⟨_, SqT.of hw⟩, fun C nC => ?_⟩
            have fr : ∀ x ∈ path ts p r, x ∈ pl := fun y hy => (fine.tree.the_way mp r1).inside (fun e he => ⟨(fine.tree.ties e he).1, (fine.tree.ties e he).2.1⟩) mp y hy
            have wl : (path ts p r).length ≤ 1000 := path_len fine mp r1
            refine lc_tup (K := K) (a := w) (xs := ((path ts p r).map S).map V.str) (fun j H' => Same H5 H' ∧ H' C = some (.lst (((((path ts p r).take j).filter (nearB ts L p)).map S).map V.str))) ⟨same_new (Same.refl H5) nC, upd_same⟩ (fun j H' _ hP => SqT.of (hP.1 _ _ hw)) (fun j v H' hj hP => ?_) (fun H' hP => ?_)
            · obtain ⟨S6, hC⟩ := hP
              obtain ⟨y, hy, my, rfl, ey⟩ := at_name hj
              have jl := (List.getElem?_eq_some_iff.mp hy).1
              have hN6 := hN5.keep S6
              have hg : DGet H' D (.str (S p)) (some (.ref (ad p))) := by
                have := DGet.k (k := Sum.inr (S p)) hN6.dict
                rw [dkm_get mp] at this
                exact this
              refine ⟨rfl, _, rfl, _, rfl, _, rfl, D, _, rfl, hg, ad p, _, rfl, .inl (SqL.of (hN6.each p mp)), rfl, flat_strs _, _, rfl, ?_⟩
              rw [inV_strs]
              have em : decide (y ∈ nearL pl ts L p) = nearB ts L p y := by
                unfold nearL
                cases c : nearB ts L p y with
                | true => exact decide_eq_true (List.mem_filter.mpr ⟨fr y my, c⟩)
                | false => exact decide_eq_false fun z => by have := (List.mem_filter.mp z).2; rw [c] at this; cases this
              rw [em]
              have fl : (((path ts p r).take j).filter (nearB ts L p)).length ≤ 1000 := by
                have := List.length_filter_le (nearB ts L p) ((path ts p r).take j)
                rw [List.length_take] at this
                omega
              cases c : nearB ts L p y with
              | true =>
                refine iteT ⟨_, rfl, _, hC, by rw [List.length_map, List.length_map]; exact sz_lt (by omega), same_put S6 nC, ?_⟩
                rw [upd_same, ey, List.filter_append, List.filter_cons_of_pos c, List.map_append, List.map_append]
                rfl
              | false =>
                refine iteF ⟨S6, ?_⟩
                rw [ey, List.filter_append, List.filter_cons_of_neg (by rw [c]; decide)]
                simpa using hC
            · obtain ⟨S6, hC⟩ := hP
              rw [List.length_map, List.length_map, List.take_length] at hC
              obtain ⟨⟨fs, ef⟩, _⟩ := hlp_is fine.tree hL r1 mp
              rw [ef, List.map_append, List.map_append] at hC
              have s7 := s5.trans S6
              have hT6 := s7 _ _ hT4
              have ul : us.length ≤ 1000 := by
                rw [hU.len]
                unfold hlps
                rw [List.length_map, List.length_take]
                omega
              refine ⟨_, rfl, .inl ⟨rfl, _, SqL.of hT6⟩, _, rfl, _, rfl, 1, rfl, C, _, -1, .str (S (hlp ts L r p)), rfl, rfl, SqL.of hC, atI_last _ _, (by show 2 ≤ sizeLine; decide), fun e ne2 => ?_⟩
              have Te : T ≠ e := ne_of_none hT6 ne2
              refine ⟨T, _, _, rfl, rfl, by rw [upd_ne Te]; exact hT6, sz_lt (by omega), ?_⟩
              have le : l ≠ e := ne_of_none (s7 _ _ hl4) ne2
              refine ⟨_, _, _, _, us ++ [.ref e], rfl, same_put (same_new (S4.trans s7) ne2) nT, by rw [upd_ne (Ne.symm Tl), upd_ne le]; exact s7 _ _ hl4, fun z' hz' => ?_, upd_same, ?_⟩
              · have h1 := s7 _ _ (hbs4 z' hz')
                rw [upd_ne (ne_of h1 hT6 (by intro w; cases w)), upd_ne (ne_of_none h1 ne2)]
                exact h1
              · rw [et]
                unfold hlps at *
                rw [List.map_append]
                refine HlpAt.snoc ?_ (hU.keep fun p' xs e' => ?_)
                · rw [upd_ne (Ne.symm Te), upd_same]
                · have h1 := s7 _ _ e'
                  rw [upd_ne (ne_of h1 hT6 (by intro w; cases w)), upd_ne (ne_of_none h1 ne2)]
                  exact h1
      · obtain ⟨x4, x5, x6, x7, us, rfl, S4, hl4, hbs4, hT4, hU⟩ := hP
        rw [List.length_map, bl, List.take_length] at hU
        exact ⟨x4, x5, x6, x7, os, us, rfl, S4, O, hT4, hU⟩
    · obtain ⟨x4, x5, x6, x7, os, us, rfl, S4, O, hT4, hU⟩ := hM
      exact ⟨_, rfl, q H' T os us S4 nT O hT4 hU⟩
end
end Far

namespace Far
open PySem PySem.Spec PyProof.Rows L2
open C8 (pss_cut tCut)
open SX (S)
open StX (pa_star tStar)
theorem bt_any : bootBuiltins ("any" : Str) = some (.builtin "any") := by decide +kernel
theorem stepG_in {pl : List Nm} {ts : List Tie} {L : Int} {C : List Nm} {z : Nm × Nm} (hC : ∀ x ∈ C, x ∈ pl) (hz : z.2 ∈ pl) : (∀ x ∈ stepG ts L C z, x ∈ pl) ∧ (stepG ts L C z).length ≤ C.length + 1 := by
  unfold stepG
  by_cases c : C.any (nearB ts L z.1) = true
  · rw [if_pos c]
    exact ⟨hC, by omega⟩
  · rw [if_neg c]
    refine ⟨fun x hx => (List.mem_append.mp hx).elim (hC x) fun w => List.mem_singleton.mp w ▸ hz, ?_⟩
    rw [List.length_append]
    exact Nat.le_refl _
theorem greedy_snoc {ts : List Tie} {L : Int} {C : List Nm} {hs : List (Nm × Nm)} {z : Nm × Nm} : greedy ts L C (hs ++ [z]) = stepG ts L (greedy ts L C hs) z := by
  unfold greedy
  rw [List.foldl_append]
  rfl
section
variable {P : Program} {w : World} {K : PySem.W.Frag} {mg : Str → Option Value} {base : Heap}
def spFewW : Sp := fun vs H Q _ => ∃ (c D h : Addr) (pl C : List Nm) (ts : List Tie) (L : Int) (ad : Nm → Addr) (us : List V) (hs : List (Nm × Nm)), vs = [.ref c, .ref D, .ref h] ∧ H c = some (.lst ((C.map S).map V.str)) ∧ (∀ x ∈ C, x ∈ pl) ∧ C.length ≤ 1000 ∧ NearAt H D pl pl ts L ad ∧ H h = some (.lst us) ∧ HlpAt H us hs ∧ hs.length ≤ 1000 ∧ (∀ z ∈ hs, z.1 ∈ pl ∧ z.2 ∈ pl) ∧
  ∀ H' : Hp, Same H H' → Q (.int ((greedy ts L C hs).length : Nat)) H'
theorem ok_fewest_with {f : Addr} {fd : FuncData} (F : Fun K "_fewest_with" "_fewest_with" s_fewest_with f fd) (T : TxtF mg) : FnOk P w K mg base CX0 1 f fd ["chosen", "near", "helpers"] spFewW := by
  refine F.ok sc_fewest_with (fun vs H Q E h => ?_) (fun cdv A outer s H vs Q E hr h => ?_)
  · obtain ⟨c, D, h, pl, C, ts, L, ad, us, hs, rfl, _⟩ := h
    rfl
  · obtain ⟨c, D, h, pl, C, ts, L, ad, us, hs, rfl, hc, hC, lC, hN, hh, hU, lh, hz, q⟩ := h
    refine ⟨_, (pss_cons (ps_set (i := 3) sc_fewest_with.nd rfl (.inl rfl) (pe_callTy call_list_of (by rfl) T.list bt_list (pa_cons (pv 0) pa_nil)))
      (pss_cut (ps_for PassesOwn.never rfl (pi_list (pv 2)) (pg_tup rfl (pgs_cons (pg_name (i := 4) sc_fewest_with.nd rfl (.inr rfl)) (pgs_cons (pg_name (i := 5) sc_fewest_with.nd rfl (.inl rfl)) pgs_nil)))
        (pss_one (ps_if (pt_not (pt_val (pe_callB (cr_any rfl) (by rfl) T.any bt_any (pa_cons (pe_lc (own := [("there", 6)]) (g := gName 6) (tt := tYes) rfl sc_fewest_with.nd (pi_list (pv 3)) (blkOk_by (N := N_fewest_with) (sc := defScope s_fewest_with) (by decide +kernel)) (fun _ _ _ _ _ => pg_name (i := 6) sc_fewest_with.nd rfl (Or.inl rfl)) (fun _ _ _ _ _ => pts_nil) (fun _ _ _ _ _ => (pe_cmpR (inK (K := K)) (pv 6) (pe_dget (hu_of hr) (pv 1) (pv 4) (fun _ _ => rfl)) rfl))) pa_nil))))
          (pss_one (ps_expr (pe_bm PySem.F.plainAttrs_list PySem.F.slot_list_append PySem.F.type_list_append mt_append (pv 3) (pa_cons (pv 5) pa_nil))))
          pss_nil)))
      (pss_one (ps_ret (pe_callB call_len_seq (by rfl) T.len bt_len (pa_cons (pv 3) pa_nil)))))), ?_⟩
    refine ⟨_, rfl, c, _, rfl, .inl (SqL.of hc), fun T nT => ?_⟩
    have S1 := same_new (o := .lst ((C.map S).map V.str)) (Same.refl H) nT
    refine ⟨fun σ' H' => ∃ (x4 x5 x6 : Option V), σ' = [some (.ref c), some (.ref D), some (.ref h), some (.ref T), x4, x5, x6] ∧ Same H H' ∧ H' T = some (.lst (((greedy ts L C hs).map S).map V.str)), ?_, fun σ' H' hM => ?_⟩
    · refine ⟨_, rfl, h, rfl, ⟨_, SqL.of (S1 _ _ hh)⟩, ?_⟩
      refine for_list (K := K) (a := h) (xs := us) (fun i σ' H' => ∃ (x4 x5 x6 : Option V), σ' = [some (.ref c), some (.ref D), some (.ref h), some (.ref T), x4, x5, x6] ∧ Same H H' ∧ H' T = some (.lst (((greedy ts L C (hs.take i)).map S).map V.str)) ∧ (∀ x ∈ greedy ts L C (hs.take i), x ∈ pl) ∧ (greedy ts L C (hs.take i)).length ≤ C.length + i)
        ⟨_, _, _, rfl, S1, upd_same, hC, Nat.le_refl _⟩ (fun i σ' H' _ hP => ?_) (fun i x σ' H' hi hP => ?_) (fun σ' H' hP => ?_)
      · obtain ⟨_, _, _, _, h1, _⟩ := hP
        exact SqL.of (h1 _ _ hh)
      · obtain ⟨x4, x5, x6, rfl, S2, hT, inn, gl⟩ := hP
        obtain ⟨p, z, ez, rfl, hp⟩ := hU.get hi
        obtain ⟨z1, z2⟩ := hz z (List.mem_of_getElem? ez)
        have il := (List.getElem?_eq_some_iff.mp ez).1
        have et : hs.take (i + 1) = hs.take i ++ [z] := by rw [List.take_add_one, ez]; rfl
        rw [et, greedy_snoc]
        generalize greedy ts L C (hs.take i) = G at *
        obtain ⟨st1, st2⟩ := stepG_in (ts := ts) (L := L) inn z2
        refine ⟨p, _, rfl, SqT.of (S2 _ _ hp), rfl, _, _, rfl, _, _, rfl, rfl, ?_⟩
        refine ⟨_, rfl, T, rfl, ⟨_, SqL.of hT⟩, fun B nB => ?_⟩
        have BT : T ≠ B := ne_of_none hT nB
        refine lc_list (K := K) (a := T) (xs := (G.map S).map V.str) (fun j H'' => Same H H'' ∧ H'' T = some (.lst ((G.map S).map V.str)) ∧ H'' B = some (.lst (((G.take j).map (nearB ts L z.1)).map V.bl))) ⟨same_new S2 nB, by rw [upd_ne BT]; exact hT, upd_same⟩ (fun j H'' _ hP => SqL.of hP.2.1) (fun j v H'' hj hP => ?_) (fun H'' hP => ?_)
        · obtain ⟨S3, hT3, hB3⟩ := hP
          obtain ⟨y, hy, my, rfl, ey⟩ := at_name hj
          have jl := (List.getElem?_eq_some_iff.mp hy).1
          have hN3 := hN.keep S3
          have hg : DGet H'' D (.str (S z.1)) (some (.ref (ad z.1))) := by
            have := DGet.k (k := Sum.inr (S z.1)) hN3.dict
            rw [dkm_get z1] at this
            exact this
          refine ⟨rfl, _, rfl, _, rfl, _, rfl, D, _, rfl, hg, ad z.1, _, rfl, .inl (SqL.of (hN3.each _ z1)), rfl, flat_strs _, ?_⟩
          rw [inV_strs]
          have em : decide (y ∈ nearL pl ts L z.1) = nearB ts L z.1 y := by
            unfold nearL
            cases c : nearB ts L z.1 y with
            | true => exact decide_eq_true (List.mem_filter.mpr ⟨inn y my, c⟩)
            | false => exact decide_eq_false fun w => by have := (List.mem_filter.mp w).2; rw [c] at this; cases this
          rw [em]
          have nBH : H B = none := S2.free nB
          refine ⟨_, hB3, by rw [List.length_map, List.length_map, List.length_take]; exact sz_lt (by omega), same_put S3 nBH, by rw [upd_ne BT]; exact hT3, ?_⟩
          rw [upd_same, ey, List.map_append, List.map_append]
          rfl
        · obtain ⟨S3, hT3, hB3⟩ := hP
          rw [List.length_map, List.length_map, List.take_length] at hB3
          refine ⟨B, _, rfl, SqL.of hB3, _, rfl, ?_⟩
          have ea : (G.map (nearB ts L z.1)).any id = G.any (nearB ts L z.1) := by rw [List.any_map]; rfl
          rw [ea]
          have nTH := nT
          cases c : G.any (nearB ts L z.1) with
          | true =>
            have e : stepG ts L G z = G := if_pos c
            rw [e] at st1 st2 ⊢
            exact iteF ⟨_, _, _, rfl, S3, hT3, inn, by omega⟩
          | false =>
            have e : stepG ts L G z = G ++ [z.2] := if_neg (by rw [c]; decide)
            rw [e] at st1 st2 ⊢
            refine iteT ⟨_, rfl, .inl ⟨rfl, _, SqL.of hT3⟩, _, rfl, T, _, _, rfl, rfl, hT3, by rw [List.length_map, List.length_map]; exact sz_lt (by omega), ?_⟩
            refine ⟨_, _, _, rfl, same_put S3 nT, ?_, st1, by omega⟩
            rw [upd_same, List.map_append, List.map_append]
            rfl
      · obtain ⟨x4, x5, x6, rfl, S2, hT, _⟩ := hP
        rw [hU.len, List.take_length] at hT
        exact ⟨x4, x5, x6, rfl, S2, hT⟩
    · obtain ⟨x4, x5, x6, rfl, S2, hT⟩ := hM
      refine ⟨_, rfl, T, _, rfl, .inl (SqL.of hT), ?_⟩
      have := q H' S2
      rw [List.length_map, List.length_map]
      exact this
/-- the fewest places so near to all, the first in their order: their numbers in the tree's places -/
structure FewIs (pl : List Nm) (ts : List Tie) (L : Int) (g : Nat → Bool) : Prop where
  cov : Cv pl ts L g
  top : ∀ h, Cv pl ts L h → ¬ Better (pk h 0 pl.length) (pk g 0 pl.length)
def spFew : Sp := fun vs H Q _ => ∃ (v : V) (pl : List Nm) (ts : List Tie) (L : Int) (g : Nat → Bool), vs = [v, .int L] ∧ Dt H v (treeD pl ts) ∧ Fine pl ts ∧ 0 ≤ L ∧ FewIs pl ts L g ∧
  ∀ (H' : Hp) (q : Addr), Same H H' → H q = none → H' q = some (.tup (((nms pl (pk g 0 pl.length)).map S).map V.str)) → Q (.ref q) H'
theorem ok_fewest_within {f : Addr} {fd : FuncData} (F : Fun K "fewest_within" "fewest_within" s_fewest_within f fd) (T : TxtF mg) (C_places_near : Cal P w K mg base 4 "_places_near" spNear) (C_helpers : Cal P w K mg base 4 "_helpers" spHelpers) (C_fewest_with : Cal P w K mg base 1 "_fewest_with" spFewW) : FnOk P w K mg base CX0 5 f fd ["tree", "length"] spFew := by
  refine F.ok sc_fewest_within (fun vs H Q E h => ?_) (fun cdv A outer s H vs Q E hr h => ?_)
  · obtain ⟨v, pl, ts, L, g, rfl, _⟩ := h
    rfl
  · obtain ⟨v, pl, ts, L, g, rfl, hd, fine, hL, ⟨cov, top⟩, q⟩ := h
    obtain ⟨t, a, b, vs, rfl, ht, ha, hb, hA⟩ := dt_tree hd
    have pl1 := fine.len
    have nd := fine.tree.nodup
    have ne : 0 < pl.length := by have := fine.tree.len; omega
    obtain ⟨r1, r2⟩ := nm_mem ne
    refine ⟨_, (pss_cons (ps_setDc (i := 3) (own := [("place", 2)]) (g := gName 2) (tt := tYes) rfl sc_fewest_within.nd rfl rfl (swD_true rfl rfl rfl (by decide +kernel)) (pi_tup (pe_ix ix_tup (pv 0) pe_int (fun _ _ => rfl))) (blkOk_by (N := N_fewest_within) (sc := defScope s_fewest_within) (by decide +kernel)) (fun _ _ _ _ _ => pg_name (i := 2) sc_fewest_within.nd rfl (Or.inl rfl)) (fun _ _ _ _ _ => pts_nil) (fun _ _ _ _ _ => (pv 2)) (fun _ _ _ _ _ => (pe_c C_places_near hr (by decide) rfl (pa_cons (pv 0) (pa_cons (pv 2) (pa_cons (pv 1) pa_nil))))))
      (pss_cons (ps_set (i := 4) sc_fewest_within.nd rfl (.inl rfl) (pe_c C_helpers hr (by decide) rfl (pa_cons (pv 0) (pa_cons (pv 3) pa_nil))))
      (pss_cons (ps_set (i := 5) sc_fewest_within.nd rfl (.inl rfl) (pe_c C_fewest_with hr (by decide) rfl (pa_cons (pe_lst pa_nil) (pa_cons (pv 3) (pa_cons (pv 4) pa_nil)))))
      (pss_cons (ps_set (i := 6) sc_fewest_within.nd rfl (.inl rfl) (pe_lst pa_nil))
      (pss_cut (ps_for PassesOwn.never rfl (pi_tup (pe_ix ix_tup (pv 0) pe_int (fun _ _ => rfl))) (pg_name (i := 2) sc_fewest_within.nd rfl (.inl rfl))
        (pss_one (ps_if (pt_cmpR op_eq (pe_c C_fewest_with hr (by decide) rfl (pa_cons (pe_lst (pa_star (pv 6) (pa_cons (pv 2) pa_nil))) (pa_cons (pv 3) (pa_cons (pv 4) pa_nil)))) (pv 5) (nomark _))
          (pss_one (ps_expr (pe_bm PySem.F.plainAttrs_list PySem.F.slot_list_append PySem.F.type_list_append mt_append (pv 6) (pa_cons (pv 2) pa_nil))))
          pss_nil)))
      (pss_one (ps_ret (pe_tupleOf (by rfl) T.tuple (pv 6))))))))), ?_⟩
    refine ⟨_, rfl, t, _, 0, .ref a, rfl, rfl, SqT.of ht, atI_nat (j := 0) rfl, a, rfl, ⟨_, ha.sq⟩, fun D nD => ?_⟩
    have Da : D ≠ a := (ha.ne nD).symm
    refine dc_tup (K := K) (a := a) (xs := (pl.map S).map V.str) (fun i H' => ∃ ad : Nm → Addr, Same H H' ∧ NearAt H' D pl (pl.take i) ts L ad) ⟨fun _ => 0, same_new (Same.refl H) nD, ⟨upd_same, fun l hl => (by cases hl)⟩⟩ (fun i H' _ hP => ?_) (fun i x H' hi hP => ?_) (fun H' hP => ?_)
    · obtain ⟨_, sm, _⟩ := hP
      exact (ha.same sm).sq
    · obtain ⟨ad, sm, bs⟩ := hP
      obtain ⟨l, el, ml, rfl, et⟩ := at_name hi
      have il := (List.getElem?_eq_some_iff.mp el).1
      have ln : l ∉ pl.take i := fun hm => by
        obtain ⟨j, hj, ej⟩ := List.mem_take_iff_getElem.mp hm
        obtain ⟨hi', ei⟩ := List.getElem?_eq_some_iff.mp el
        have := (List.getElem_inj nd).mp (ej.trans ei.symm)
        omega
      refine ⟨rfl, _, rfl, _, rfl, _, rfl, _, rfl, _, pl, ts, l, L, rfl, Dt.keep (TK.of sm) hd, fine, ml, hL, fun H2 p s2 np hp => ?_⟩
      have hD := s2 _ _ bs.dict
      have pD : p ≠ D := (ne_of_none bs.dict np).symm
      refine ⟨_, Sum.inr (S l), rfl, hD, by unfold dkm; rw [List.length_map, List.length_take]; exact sz_lt (by omega), ?_⟩
      rw [dkm_new ln, et]
      refine ⟨fun z => if z = l then p else ad z, same_put (sm.trans s2) nD, ⟨?_, fun m hm => ?_⟩⟩
      · rw [upd_same]
        refine congrArg (fun z => some (HO.dK z)) (dkm_cong fun z _ => ?_)
        by_cases e : z = l <;> simp [e]
      · rcases List.mem_append.mp hm with z | z
        · have ml : m ≠ l := fun e => ln (e ▸ z)
          have h1 := s2 _ _ (bs.each m z)
          rw [if_neg ml, upd_ne (ne_of h1 hD (by intro w; cases w))]
          exact h1
        · rw [List.mem_singleton.mp z, if_pos rfl, upd_ne pD]
          exact hp
    · obtain ⟨ad, S1, hN⟩ := hP
      rw [List.length_map, List.length_map, List.take_length] at hN
      refine ⟨_, rfl, _, rfl, _, D, pl, ts, L, ad, rfl, Dt.keep (TK.of S1) hd, fine, hL, hN, fun H2 h os us s2 nh O hh hU => ?_⟩
      have S2 := S1.trans s2
      have hN2 := hN.keep s2
      have hz : ∀ z ∈ hlps ts L (nm pl 0) os, z.1 ∈ pl ∧ z.2 ∈ pl := fun z hz => by
        obtain ⟨p, hp, rfl⟩ := List.mem_map.mp hz
        have mp := O.perm.mem_iff.mp hp
        exact ⟨mp, (hlp_is fine.tree hL r1 mp).2.2.1⟩
      have lh : (hlps ts L (nm pl 0) os).length ≤ 1000 := by
        unfold hlps
        rw [List.length_map, O.perm.length_eq]
        exact pl1
      obtain ⟨few, each⟩ := fewest_first fine.tree hL r1 O cov top
      refine ⟨Nat.zero_le _, fun e ne1 => ?_⟩
      have hD2 := hN2.dict
      have h3 : Same H2 (upd H2 e (.lst [])) := same_new (Same.refl H2) ne1
      have hU3 : HlpAt (upd H2 e (.lst [])) us (hlps ts L (nm pl 0) os) := hU.keep fun p xs w => h3 _ _ w
      refine ⟨_, rfl, _, rfl, e, D, h, pl, [], ts, L, ad, us, _, rfl, upd_same, (fun x hx => by cases hx), Nat.zero_le _, hN2.keep h3, h3 _ _ hh, hU3, lh, hz, fun H3 s3 => ?_⟩
      have s23 := h3.trans s3
      have S3 := S2.trans s23
      rw [few]
      refine ⟨Nat.zero_le _, fun c nc => ?_⟩
      have S4 := same_new (o := .lst []) S3 nc
      have s34 := same_new (o := .lst []) s23 nc
      have ncH : H c = none := S3.free nc
      refine ⟨fun σ' H' => ∃ x2 : Option V, σ' = [some (.ref t), some (.int L), x2, some (.ref D), some (.ref h), some (.int ((pk g 0 pl.length).length : Nat)), some (.ref c)] ∧ Same H H' ∧ H' c = some (.lst (((nms pl (pk g 0 pl.length)).map S).map V.str)), ?_, fun σ' H' hM => ?_⟩
      · refine ⟨_, rfl, t, _, 0, .ref a, rfl, rfl, SqT.of (S4 _ _ ht), atI_nat (j := 0) rfl, a, rfl, ⟨_, (ha.same S4).sq⟩, ?_⟩
        refine for_tup (K := K) (a := a) (xs := (pl.map S).map V.str) (fun i σ' H' => ∃ x2 : Option V, σ' = [some (.ref t), some (.int L), x2, some (.ref D), some (.ref h), some (.int ((pk g 0 pl.length).length : Nat)), some (.ref c)] ∧ Same H H' ∧ NearAt H' D pl pl ts L ad ∧ H' h = some (.lst us) ∧ HlpAt H' us (hlps ts L (nm pl 0) os) ∧ H' c = some (.lst (((nms pl (pk g 0 i)).map S).map V.str)))
          ⟨_, rfl, S4, hN2.keep s34, s34 _ _ hh, hU.keep fun p xs w => s34 _ _ w, upd_same⟩ (fun i σ' H' _ hP => ?_) (fun i x σ' H' hi hP => ?_) (fun σ' H' hP => ?_)
        · obtain ⟨_, _, h1, _⟩ := hP
          exact (ha.same h1).sq
        · obtain ⟨x2, rfl, S5, hN5, hh5, hU5, hc5⟩ := hP
          obtain ⟨l, el, ml, rfl, et⟩ := at_name hi
          have il := (List.getElem?_eq_some_iff.mp el).1
          have enm : nm pl i = l := by
            have := (nm_mem il).2
            rw [el] at this
            exact (Option.some.inj this).symm
          have pkl : (pk g 0 i).length ≤ i := by
            have := List.length_filter_le g (List.range' 0 i)
            rw [List.length_range'] at this
            exact this
          have inP : ∀ x ∈ nms pl (pk g 0 i) ++ [l], x ∈ pl := fun x hx => by
            rcases List.mem_append.mp hx with z | z
            · obtain ⟨j, hj, rfl⟩ := List.mem_map.mp z
              have := (pk_mem.mp hj).1
              exact (nm_mem (by omega)).1
            · rw [List.mem_singleton.mp z]
              exact ml
          have nl : (nms pl (pk g 0 i)).length ≤ i := by unfold nms; rw [List.length_map]; exact pkl
          refine ⟨_, rfl, c, _, rfl, .inr (SqL.of hc5), _, rfl, by rw [List.length_append, List.length_map, List.length_map]; exact Nat.le_of_lt (sz_lt (by show _ + 1 ≤ 100000; omega)), fun e2 ne2 => ?_⟩
          have sn := same_new (o := .lst (((nms pl (pk g 0 i)).map S).map V.str ++ [.str (S l)])) (Same.refl H') ne2
          have ec : ((nms pl (pk g 0 i)).map S).map V.str ++ [V.str (S l)] = ((nms pl (pk g 0 i) ++ [l]).map S).map V.str := by
            rw [List.map_append, List.map_append]
            rfl
          rw [ec] at sn ⊢
          refine ⟨_, rfl, _, rfl, e2, D, h, pl, nms pl (pk g 0 i) ++ [l], ts, L, ad, us, _, rfl, upd_same, inP, by rw [List.length_append]; show _ + 1 ≤ 1000; omega, hN5.keep sn, sn _ _ hh5, hU5.keep fun p xs w => sn _ _ w, lh, hz, fun H6 s6 => ?_⟩
          have S6 := (S5.trans sn).trans s6
          have s56 := sn.trans s6
          have hc6 := s56 _ _ hc5
          refine ⟨_, rfl, rfl, _, rfl, ?_⟩
          have hi2 := each i il
          rw [enm] at hi2
          rw [pk_succ]
          by_cases c1 : g i = true
          · rw [decide_eq_true (show V.int (((greedy ts L (nms pl (pk g 0 i) ++ [l]) (hlps ts L (nm pl 0) os)).length : Nat) : Int) = V.int (((pk g 0 pl.length).length : Nat) : Int) by rw [hi2.mpr c1]), if_pos c1]
            have sp := same_put (o := .lst ((((nms pl (pk g 0 i))).map S).map V.str ++ [.str (S l)])) S6 ncH
            refine iteT ⟨_, rfl, .inl ⟨rfl, _, SqL.of hc6⟩, _, rfl, c, _, _, rfl, rfl, hc6, by rw [List.length_map, List.length_map]; exact sz_lt (by omega), ?_⟩
            have kk : ∀ {b : Addr} {o : HO}, H6 b = some o → b ≠ c → (upd H6 c (.lst ((((nms pl (pk g 0 i))).map S).map V.str ++ [.str (S l)]))) b = some o := fun w n => by rw [upd_ne n]; exact w
            have ca : ∀ x ∈ pl, ad x ≠ c := fun x hx => ne_of_none (s23 _ _ (hN2.each x hx)) nc
            refine ⟨_, rfl, sp, ⟨kk (s56 _ _ hN5.dict) ?_, fun x hx => kk (s56 _ _ (hN5.each x hx)) (ca x hx)⟩, kk (s56 _ _ hh5) ?_, hU5.keep (fun p xs w => kk (s56 _ _ w) (ne_of (s56 _ _ w) hc6 (by intro w; cases w))), ?_⟩
            · exact ne_of (s56 _ _ hN5.dict) hc6 (by intro w; cases w)
            · exact ne_of_none (s23 _ _ hh) nc
            · rw [upd_same, ec]
              have e4 : nms pl (pk g 0 i ++ [i]) = nms pl (pk g 0 i) ++ [l] := by
                unfold nms
                rw [List.map_append, List.map_singleton, enm]
              rw [e4]
          · rw [decide_eq_false (fun z => c1 (hi2.mp (by have := V.int.inj z; omega))), if_neg c1, List.append_nil]
            exact iteF ⟨_, rfl, S6, hN5.keep s56, s56 _ _ hh5, hU5.keep (fun p xs w => s56 _ _ w), hc6⟩
        · obtain ⟨x2, rfl, S5, _, _, _, hc5⟩ := hP
          rw [List.length_map, List.length_map] at hc5
          exact ⟨x2, rfl, S5, hc5⟩
      · obtain ⟨x2, rfl, S5, hc5⟩ := hM
        refine ⟨_, rfl, .inl ⟨c, _, rfl, SqL.of hc5, fun r nr => ?_⟩⟩
        exact q _ r (same_new S5 nr) (S5.free nr) upd_same
end
end Far

namespace Far
open PySem PySem.Spec PyProof.Rows L2
open SX (S)
/-! ### places picked by the bits of a number; near places by bits -/
def wN (g : Nat → Bool) : Nat → Nat
  | 0 => 0
  | k + 1 => 2 * wN g k + (if g k = true then 1 else 0)
theorem wN_lt (g : Nat → Bool) : ∀ n, wN g n < 2 ^ n
  | 0 => (by decide : 0 < 2 ^ 0)
  | n + 1 => by
    have := wN_lt g n
    show 2 * wN g n + (if g n = true then 1 else 0) < 2 ^ (n + 1)
    rw [Nat.pow_succ]
    by_cases c : g n = true
    · rw [if_pos c]; omega
    · rw [if_neg c]; omega
theorem wN_bit {g : Nat → Bool} : ∀ {n a : Nat}, a < n → (wN g n).testBit (n - 1 - a) = g a
  | 0, a, h => by omega
  | n + 1, a, h => by
    have lt : (if g n = true then 1 else 0) < 2 ^ 1 := by by_cases c : g n = true <;> simp [c]
    have e : wN g (n + 1) = 2 ^ 1 * wN g n + (if g n = true then 1 else 0) := rfl
    rw [e, Nat.testBit_two_pow_mul_add _ lt]
    by_cases c : a = n
    · subst c
      rw [if_pos (by omega)]
      have : a + 1 - 1 - a = 0 := by omega
      rw [this]
      cases g a <;> decide
    · rw [if_neg (by omega)]
      have : n + 1 - 1 - a - 1 = n - 1 - a := by omega
      rw [this]
      exact wN_bit (by omega)
theorem wN_sum {g : Nat → Bool} {n : Nat} : ∀ i, i ≤ n → (((List.range i).filter g).map fun a => 2 ^ (n - 1 - a)).sum = wN g i * 2 ^ (n - i)
  | 0, _ => by simp [wN]
  | i + 1, h => by
    rw [List.range_succ, List.filter_append, List.map_append, List.sum_append, wN_sum i (by omega)]
    show _ = (2 * wN g i + (if g i = true then 1 else 0)) * 2 ^ (n - (i + 1))
    have e : 2 ^ (n - i) = 2 * 2 ^ (n - (i + 1)) := by
      rw [show n - i = n - (i + 1) + 1 by omega, Nat.pow_succ]
      omega
    have e2 : n - 1 - i = n - (i + 1) := by omega
    rw [e, Nat.add_mul]
    cases c : g i with
    | true =>
      rw [List.filter_cons_of_pos c]
      simp [e2]
      rw [Nat.mul_comm 2 (wN g i), Nat.mul_assoc]
    | false =>
      rw [List.filter_cons_of_neg (by rw [c]; decide)]
      simp
      rw [Nat.mul_comm 2 (wN g i), Nat.mul_assoc]
def gO (n o : Nat) : Nat → Bool := fun a => o.testBit (n - 1 - a)
theorem gO_is (n o a : Nat) : gO n o a = decide (o / 2 ^ (n - 1 - a) % 2 = 1) := by
  unfold gO
  rw [Nat.testBit_eq_decide_div_mod_eq]
/-- near places, a bit for each -/
noncomputable def mkN (pl : List Nm) (ts : List Tie) (L : Int) (u : Nm) : Nat := wN (fun k => nearB ts L u (nm pl k)) pl.length
noncomputable def seenN (pl : List Nm) (ts : List Tie) (L : Int) (I : List Nat) : Nat := I.foldl (fun s a => s ||| mkN pl ts L (nm pl a)) 0
theorem fold_bit {f : Nat → Nat} {j : Nat} : ∀ (I : List Nat) (s : Nat), (I.foldl (fun s a => s ||| f a) s).testBit j = (s.testBit j || I.any fun a => (f a).testBit j)
  | [], s => by simp
  | a :: I, s => by
    rw [List.foldl_cons, fold_bit I, Nat.testBit_or, List.any_cons, Bool.or_assoc]
theorem fold_lt {f : Nat → Nat} {n : Nat} (hf : ∀ a, f a < 2 ^ n) : ∀ (I : List Nat) (s : Nat), s < 2 ^ n → I.foldl (fun s a => s ||| f a) s < 2 ^ n
  | [], s, h => h
  | a :: I, s, h => fold_lt hf I _ (Nat.or_lt_two_pow h (hf a))
theorem seen_full {pl : List Nm} {ts : List Tie} {L : Int} {g : Nat → Bool} : seenN pl ts L (pk g 0 pl.length) = 2 ^ pl.length - 1 ↔ Cv pl ts L g := by
  have bit : ∀ k < pl.length, (seenN pl ts L (pk g 0 pl.length)).testBit (pl.length - 1 - k) = (pk g 0 pl.length).any fun a => nearB ts L (nm pl a) (nm pl k) := fun k hk => by
    unfold seenN
    rw [fold_bit, Nat.zero_testBit, Bool.false_or]
    congr 1
    funext a
    exact wN_bit hk
  constructor
  · intro e k hk
    have h := bit k hk
    rw [e, Nat.testBit_two_pow_sub_one, decide_eq_true (by omega)] at h
    obtain ⟨a, ha, na⟩ := List.any_eq_true.mp h.symm
    have := pk_mem.mp ha
    exact ⟨a, by omega, this.2, of_decide_eq_true na⟩
  · intro h
    refine Nat.eq_of_testBit_eq fun i => ?_
    rw [Nat.testBit_two_pow_sub_one]
    by_cases hi : i < pl.length
    · have b := bit (pl.length - 1 - i) (by omega)
      rw [show pl.length - 1 - (pl.length - 1 - i) = i by omega] at b
      rw [b, decide_eq_true hi]
      obtain ⟨a, ha, ga, d⟩ := h (pl.length - 1 - i) (by omega)
      exact List.any_eq_true.mpr ⟨a, pk_mem.mpr ⟨⟨Nat.zero_le _, by omega⟩, ga⟩, decide_eq_true d⟩
    · rw [decide_eq_false hi]
      refine Nat.testBit_lt_two_pow (Nat.lt_of_lt_of_le ?_ (Nat.pow_le_pow_right (by decide) (Nat.le_of_not_lt hi)))
      exact fold_lt (fun a => wN_lt _ _) _ _ (Nat.pow_pos (by decide))
theorem pk_cong {g h : Nat → Bool} {s n : Nat} (e : ∀ a, s ≤ a → a < s + n → g a = h a) : pk g s n = pk h s n := List.filter_congr fun a ha => by
  have := List.mem_range'_1.mp ha
  exact e a this.1 this.2
theorem Cv.cong {pl : List Nm} {ts : List Tie} {L : Int} {g h : Nat → Bool} (e : ∀ a < pl.length, g a = h a) (c : Cv pl ts L g) : Cv pl ts L h := fun k hk => by
  obtain ⟨a, ha, ga, d⟩ := c k hk
  exact ⟨a, ha, by rw [← e a ha]; exact ga, d⟩
theorem Better.trans {I J K : List Nat} (h1 : Better I J) (h2 : Better J K) : Better I K := by
  rcases h1 with a | ⟨a, b⟩ <;> rcases h2 with c | ⟨c, d⟩
  · exact .inl (by omega)
  · exact .inl (by omega)
  · exact .inl (by omega)
  · exact .inr ⟨by omega, List.lt_trans b d⟩
theorem Better.irrefl {I : List Nat} (h : Better I I) : False := by
  rcases h with a | ⟨_, b⟩
  · omega
  · exact List.lt_irrefl _ b
/-- the best of those picked so far -/
def SrAt (pl : List Nm) (ts : List Tie) (L : Int) (m : Nat) (best : Option (List Nat)) : Prop :=
  (best = none → ∀ o, 1 ≤ o → o < m → ¬ Cv pl ts L (gO pl.length o)) ∧ ∀ B, best = some B → ∃ o, 1 ≤ o ∧ o < m ∧ B = pk (gO pl.length o) 0 pl.length ∧ Cv pl ts L (gO pl.length o) ∧ ∀ o', 1 ≤ o' → o' < m → Cv pl ts L (gO pl.length o') → ¬ Better (pk (gO pl.length o') 0 pl.length) B
theorem SrAt.keep {pl : List Nm} {ts : List Tie} {L : Int} {m : Nat} {best : Option (List Nat)} (h : SrAt pl ts L m best) (k : Cv pl ts L (gO pl.length m) → ∃ B, best = some B ∧ ¬ Better (pk (gO pl.length m) 0 pl.length) B) : SrAt pl ts L (m + 1) best := by
  refine ⟨fun e o h1 h2 c => ?_, fun B e => ?_⟩
  · by_cases eo : o = m
    · subst eo
      obtain ⟨B, e2, _⟩ := k c
      rw [e] at e2
      cases e2
    · exact h.1 e o h1 (by omega) c
  · obtain ⟨o, h1, h2, h3, h4, h5⟩ := h.2 B e
    refine ⟨o, h1, by omega, h3, h4, fun o' g1 g2 c => ?_⟩
    by_cases eo : o' = m
    · subst eo
      obtain ⟨B', e2, nb⟩ := k c
      rw [e] at e2
      cases e2
      exact nb
    · exact h5 o' g1 (by omega) c
theorem SrAt.new {pl : List Nm} {ts : List Tie} {L : Int} {m : Nat} {best : Option (List Nat)} (h : SrAt pl ts L m best) (m1 : 1 ≤ m) (c : Cv pl ts L (gO pl.length m)) (k : ∀ B, best = some B → Better (pk (gO pl.length m) 0 pl.length) B) : SrAt pl ts L (m + 1) (some (pk (gO pl.length m) 0 pl.length)) := by
  refine ⟨fun e => (by cases e), fun B e => ?_⟩
  cases e
  refine ⟨m, m1, by omega, rfl, c, fun o' g1 g2 c' b => ?_⟩
  by_cases eo : o' = m
  · subst eo
    exact b.irrefl
  · cases eb : best with
    | none => exact h.1 eb o' g1 (by omega) c'
    | some B =>
      obtain ⟨o, _, _, _, _, h5⟩ := h.2 B eb
      exact h5 o' g1 (by omega) c' (b.trans (k B eb))
theorem SrAt.done {pl : List Nm} {ts : List Tie} {L : Int} {best : Option (List Nat)} (hL : 0 ≤ L) (F : IsTree pl ts) (h : SrAt pl ts L (2 ^ pl.length) best) : ∃ g, best = some (pk g 0 pl.length) ∧ FewIs pl ts L g := by
  have ne : 0 < pl.length := by have := F.len; omega
  have own : ∀ g, Cv pl ts L g → ∃ o, 1 ≤ o ∧ o < 2 ^ pl.length ∧ ∀ a < pl.length, gO pl.length o a = g a := fun g c => by
    refine ⟨wN g pl.length, Nat.one_le_iff_ne_zero.mpr fun z => ?_, wN_lt _ _, fun a ha => wN_bit ha⟩
    obtain ⟨a, ha, ga, _⟩ := c 0 ne
    have := wN_bit (g := g) ha
    rw [z, Nat.zero_testBit, ga] at this
    cases this
  have pkE : ∀ {g h : Nat → Bool}, (∀ a < pl.length, g a = h a) → pk g 0 pl.length = pk h 0 pl.length := fun e => pk_cong fun a _ ha => e a (by omega)
  cases best with
  | none =>
    exfalso
    have call : Cv pl ts L fun _ => true := fun k hk => ⟨k, hk, rfl, by rw [(F.dist_self _).1]; exact hL⟩
    obtain ⟨o, o1, o2, o3⟩ := own _ call
    exact h.1 rfl o o1 o2 (call.cong fun a ha => (o3 a ha).symm)
  | some B =>
    obtain ⟨o, o1, o2, o3, o4, o5⟩ := h.2 B rfl
    refine ⟨_, by rw [o3], o4, fun g cg b => ?_⟩
    obtain ⟨o', p1, p2, p3⟩ := own g cg
    refine o5 o' p1 p2 (cg.cong fun a ha => (p3 a ha).symm) ?_
    rw [pkE p3, o3]
    exact b
def iL (I : List Nat) : List Int := I.map fun (n : Nat) => (n : Int)
theorem iL_lt : ∀ I J : List Nat, iL I < iL J ↔ I < J
  | [], [] => by simp [iL]
  | [], _ :: _ => by simp [iL]
  | _ :: _, [] => by simp [iL]
  | i :: I, j :: J => by
    have ih := iL_lt I J
    show ((i : Int) :: iL I) < ((j : Int) :: iL J) ↔ _
    rw [List.cons_lt_cons_iff, List.cons_lt_cons_iff, ih]
    constructor
    · rintro (h | ⟨h, k⟩)
      · exact .inl (by omega)
      · exact .inr ⟨by omega, k⟩
    · rintro (h | ⟨h, k⟩)
      · exact .inl (by omega)
      · exact .inr ⟨by omega, k⟩
end Far

namespace Far
open PySem PySem.Spec PyProof.Rows L2
open C8 (pss_cut tCut)
open SX (S)
theorem dkm_old {f : Nm → V} {x : Nm} {v : V} {fs : List Nm} (h : x ∈ fs) : putK (dkm fs f) (Sum.inr (S x)) v = dkm fs (fun z => if z = x then v else f z) := by
  unfold putK
  rw [valV_any, dkm_get h, if_pos (show (some (f x)).isSome = true from rfl)]
  unfold dkm
  rw [List.map_map]
  refine List.map_congr_left fun a _ => ?_
  show (if (Sum.inr (S a) : Key) = Sum.inr (S x) then _ else _) = _
  by_cases e : a = x
  · rw [if_pos (by rw [e])]
    show _ = (Sum.inr (S a), if a = x then v else f a)
    rw [if_pos e]
  · rw [if_neg (fun z => e (SX.S_inj (Sum.inr.inj z)))]
    show _ = (Sum.inr (S a), if a = x then v else f a)
    rw [if_neg e]
/-- how often each name stands in ls, in a dict -/
def CntAt (H : Hp) (d : Addr) (ls : List Nm) : Prop := ∃ fs : List Nm, H d = some (.dK (dkm fs fun x => .int ((ls.countP fun z => decide (z = x) : Nat) : Int))) ∧ (∀ x, x ∈ fs ↔ x ∈ ls) ∧ fs.length ≤ ls.length
theorem CntAt.get {H : Hp} {d : Addr} {ls : List Nm} (h : CntAt H d ls) (x : Nm) : ∃ o, DGet H d (.str (S x)) o ∧ o.getD (.int 0) = .int ((ls.countP fun z => decide (z = x) : Nat) : Int) := by
  obtain ⟨fs, h1, h2, _⟩ := h
  have g := DGet.k (k := Sum.inr (S x)) h1
  refine ⟨_, g, ?_⟩
  by_cases c : x ∈ fs
  · rw [dkm_get c]
    rfl
  · rw [dkm_no c]
    have : (ls.countP fun z => decide (z = x)) = 0 := List.countP_eq_zero.mpr fun z hz e => c ((h2 x).mpr (by rw [← of_decide_eq_true e]; exact hz))
    rw [this]
    rfl
theorem CntAt.put {H : Hp} {d : Addr} {ls : List Nm} (h : CntAt H d ls) (l : ls.length ≤ 10000) (x : Nm) : ∃ kvs : List (Key × V), H d = some (.dK kvs) ∧ kvs.length < sizeLine ∧ CntAt (upd H d (.dK (putK kvs (Sum.inr (S x)) (.int (((ls.countP fun z => decide (z = x) : Nat) : Int) + 1))))) d (ls ++ [x]) := by
  obtain ⟨fs, h1, h2, h3⟩ := h
  refine ⟨_, h1, by unfold dkm; rw [List.length_map]; exact sz_lt (by omega), ?_⟩
  have val : ∀ z, (if z = x then V.int (((ls.countP fun z => decide (z = x) : Nat) : Int) + 1) else .int ((ls.countP fun y => decide (y = z) : Nat) : Int)) = .int (((ls ++ [x]).countP fun y => decide (y = z) : Nat) : Int) := fun z => by
    rw [List.countP_append, List.countP_singleton]
    by_cases e : z = x
    · subst e
      simp
    · rw [if_neg e]
      have : ¬ x = z := fun w => e w.symm
      simp [this]
  by_cases c : x ∈ fs
  · refine ⟨fs, ?_, fun z => ?_, by rw [List.length_append]; omega⟩
    · rw [upd_same, dkm_old c]
      exact congrArg (fun z => some (HO.dK z)) (dkm_cong fun z _ => val z)
    · rw [List.mem_append, List.mem_singleton, h2]
      exact ⟨.inl, fun h => h.elim id fun e => by rw [e]; exact (h2 x).mp c⟩
  · refine ⟨fs ++ [x], ?_, fun z => ?_, by rw [List.length_append, List.length_append]; exact Nat.add_le_add_right h3 _⟩
    · rw [upd_same, dkm_new c]
      exact congrArg (fun z => some (HO.dK z)) (dkm_cong fun z _ => val z)
    · rw [List.mem_append, List.mem_append, h2]
abbrev s_law_leaves : Stmt := topS 25
abbrev N_law_leaves : List Str := ["tree", "many", "one", "other", "length", "place"]
theorem sc_law_leaves : FnScope N_law_leaves ["tree"] (defScope s_law_leaves) := ⟨rfl, rfl, rfl, by decide +kernel, rfl, by decide +kernel, by decide +kernel⟩
abbrev s_law_without : Stmt := topS 26
abbrev N_law_without : List Str := ["tree", "leaves", "ties", "tie", "place"]
theorem sc_law_without : FnScope N_law_without ["tree"] (defScope s_law_without) := ⟨rfl, rfl, rfl, by decide +kernel, rfl, by decide +kernel, by decide +kernel⟩
abbrev s_law_peeled : Stmt := topS 28
abbrev N_law_peeled : List Str := ["tree", "found"]
theorem sc_law_peeled : FnScope N_law_peeled ["tree"] (defScope s_law_peeled) := ⟨rfl, rfl, rfl, by decide +kernel, rfl, by decide +kernel, by decide +kernel⟩
section
variable {P : Program} {w : World} {K : PySem.W.Frag} {mg : Str → Option Value} {base : Heap}
theorem ok_law_leaves {f : Addr} {fd : FuncData} (F : Fun K "_law_leaves" "_law_leaves" s_law_leaves f fd) (T : TxtF mg) : FnOk P w K mg base CX0 1 f fd ["tree"] spLeaves := by
  refine F.ok sc_law_leaves (fun vs H Q E h => ?_) (fun cdv A outer s H vs Q E hr h => ?_)
  · obtain ⟨v, pl, ts, rfl, _⟩ := h
    rfl
  · obtain ⟨v, pl, ts, rfl, hd, l1, l2, q⟩ := h
    obtain ⟨t, a, b, vs, rfl, ht, ha, hb, hA⟩ := dt_tree hd
    have vl : vs.length = ts.length := by
      have := DtAll.len hA
      rwa [List.length_map] at this
    have el : ∀ us : List Tie, (ends us).length = 2 * us.length := fun us => by
      induction us with
      | nil => rfl
      | cons y r ih =>
        unfold ends at *
        rw [List.flatMap_cons, List.length_append, ih]
        simp
        omega
    refine ⟨_, (pss_cons (ps_set (i := 1) sc_law_leaves.nd rfl (.inr rfl) pe_dnewK)
      (pss_cut (ps_for PassesOwn.never rfl (pi_tup (pe_ix ix_tup (pv 0) pe_int (fun _ _ => rfl))) (pg_tup rfl (pgs_cons (pg_name (i := 2) sc_law_leaves.nd rfl (.inl rfl)) (pgs_cons (pg_name (i := 3) sc_law_leaves.nd rfl (.inl rfl)) (pgs_cons (pg_name (i := 4) sc_law_leaves.nd rfl (.inl rfl)) pgs_nil))))
        (pss_cons (ps_dput (hu_of hr) (pv 1) (pv 2) (pe_op op_add (pe_dget2 (hu_of hr) (pv 1) (pv 2) pe_int ⟨rfl, rfl, rfl, rfl⟩) pe_int) rfl)
        (pss_one (ps_dput (hu_of hr) (pv 1) (pv 3) (pe_op op_add (pe_dget2 (hu_of hr) (pv 1) (pv 3) pe_int ⟨rfl, rfl, rfl, rfl⟩) pe_int) rfl))))
      (pss_one (ps_ret (pe_tupleOf (by rfl) T.tuple (pe_lc (own := [("place", 5)]) (g := gName 5)  rfl sc_law_leaves.nd (pi_tup (pe_ix ix_tup (pv 0) pe_int (fun _ _ => rfl))) (blkOk_by (N := N_law_leaves) (sc := defScope s_law_leaves) (by decide +kernel)) (fun _ _ _ _ _ => pg_name (i := 5) sc_law_leaves.nd rfl (Or.inl rfl)) (fun _ _ _ _ _ => pts_one (pt_cmpR op_eq (pe_dget2 (hu_of hr) (pv 1) (pv 5) pe_int ⟨rfl, rfl, rfl, rfl⟩) pe_int (nomark _))) (fun _ _ _ _ _ => (pv 5)))))))), ?_⟩
    refine fun d nd => ?_
    refine ⟨fun σ' H' => ∃ (x2 x3 x4 x5 : Option V), σ' = [some (.ref t), some (.ref d), x2, x3, x4, x5] ∧ Same H H' ∧ CntAt H' d (ends ts), ?_, fun σ' H' hM => ?_⟩
    · have S0 := same_new (o := .dK []) (Same.refl H) nd
      refine ⟨_, rfl, t, _, 1, .ref b, rfl, rfl, SqT.of (S0 _ _ ht), atI_nat (j := 1) rfl, b, rfl, ⟨_, SqT.of (S0 _ _ hb)⟩, ?_⟩
      refine for_tup (K := K) (a := b) (xs := vs) (fun i σ' H' => ∃ (x2 x3 x4 x5 : Option V), σ' = [some (.ref t), some (.ref d), x2, x3, x4, x5] ∧ Same H H' ∧ CntAt H' d (ends (ts.take i))) ⟨_, _, _, _, rfl, S0, [], upd_same, by simp [ends], Nat.zero_le _⟩ (fun i σ' H' _ hP => ?_) (fun i x σ' H' hi hP => ?_) (fun σ' H' hP => ?_)
      · obtain ⟨_, _, _, _, _, h1, _⟩ := hP
        exact SqT.of (h1 _ _ hb)
      · obtain ⟨x2, x3, x4, x5, rfl, S1, C⟩ := hP
        obtain ⟨t3, p3, ht3, rfl, hp3⟩ := tie_at (DtAll.keep (TK.of S1) hA) hi
        have il := (List.getElem?_eq_some_iff.mp ht3).1
        have et : ts.take (i + 1) = ts.take i ++ [t3] := by rw [List.take_add_one, ht3]; rfl
        have ee : ends (ts.take (i + 1)) = (ends (ts.take i) ++ [t3.1]) ++ [t3.2.1] := by
          rw [et]
          unfold ends
          rw [List.flatMap_append, List.append_assoc]
          rfl
        have ll : (ends (ts.take i)).length ≤ 2000 := by
          rw [el, List.length_take]
          omega
        rw [ee]
        refine ⟨p3, _, rfl, SqT.of hp3, rfl, _, _, rfl, _, _, rfl, _, _, rfl, rfl, ?_⟩
        obtain ⟨o1, g1, e1⟩ := C.get t3.1
        obtain ⟨kvs, k1, k2, k3⟩ := C.put (by omega) t3.1
        have S2 := same_put (o := .dK (putK kvs (Sum.inr (S t3.1)) (.int (((ends (ts.take i)).countP fun z => decide (z = t3.1) : Nat) + 1)))) S1 nd
        refine ⟨_, rfl, d, rfl, .inl ⟨_, .inl k1⟩, _, rfl, o1, g1, _, _, e1, rfl, _, rfl, _, rfl, d, _, rfl, DPut.k (k := Sum.inr (S t3.1)) k1 k2, ?_⟩
        obtain ⟨o4, g4, e4⟩ := k3.get t3.2.1
        obtain ⟨kvs5, k5, k6, k7⟩ := k3.put (by rw [List.length_append, List.length_singleton]; omega) t3.2.1
        refine ⟨_, rfl, d, rfl, .inl ⟨_, .inl k5⟩, _, rfl, o4, g4, _, _, e4, rfl, _, rfl, _, rfl, d, _, rfl, DPut.k (k := Sum.inr (S t3.2.1)) k5 k6, ?_⟩
        exact ⟨_, _, _, _, rfl, same_put S2 nd, k7⟩
      · obtain ⟨x2, x3, x4, x5, rfl, S1, C⟩ := hP
        rw [vl, List.take_length] at C
        exact ⟨x2, x3, x4, x5, rfl, S1, C⟩
    · obtain ⟨x2, x3, x4, x5, rfl, S1, C⟩ := hM
      refine ⟨_, rfl, t, _, 0, .ref a, rfl, rfl, SqT.of (S1 _ _ ht), atI_nat (j := 0) rfl, a, rfl, ⟨_, (ha.same S1).sq⟩, fun G nG => ?_⟩
      have Gd : d ≠ G := by
        obtain ⟨fs, h1, _⟩ := C
        exact ne_of_none h1 nG
      have C2 : CntAt (upd H' G (.lst [])) d (ends ts) := by
        obtain ⟨fs, h1, h2⟩ := C
        exact ⟨fs, by rw [upd_ne Gd]; exact h1, h2⟩
      refine lc_tup (K := K) (a := a) (xs := (pl.map S).map V.str) (fun i H'' => Same H H'' ∧ CntAt H'' d (ends ts) ∧ H'' G = some (.lst (((leavesOf (pl.take i) ts).map S).map V.str))) ⟨same_new S1 nG, C2, upd_same⟩ (fun i H'' _ hP => (ha.same hP.1).sq) (fun i v H'' hi hP => ?_) (fun H'' hP => ?_)
      · obtain ⟨S2, C3, hG⟩ := hP
        obtain ⟨x, hx, mx, rfl, ex⟩ := at_name hi
        have il := (List.getElem?_eq_some_iff.mp hx).1
        obtain ⟨o4, g4, e4⟩ := C3.get x
        have k1 : IsD H'' d := by
          obtain ⟨fs, h1, _⟩ := C3
          exact .inl ⟨_, .inl h1⟩
        refine ⟨rfl, _, rfl, d, rfl, k1, _, rfl, o4, g4, ?_⟩
        rw [e4, ends_deg]
        refine ⟨rfl, _, rfl, ?_⟩
        have gl : (leavesOf (pl.take i) ts).length ≤ 1000 := by
          unfold leavesOf
          have := List.length_filter_le (fun x => decide (deg ts x = 1)) (pl.take i)
          rw [List.length_take] at this
          omega
        by_cases c : deg ts x = 1
        · rw [c]
          refine iteT ⟨_, rfl, _, hG, by rw [List.length_map, List.length_map]; exact sz_lt (by omega), same_put S2 (S1.free nG), ?_, ?_⟩
          · obtain ⟨fs, h1, h2⟩ := C3
            exact ⟨fs, by rw [upd_ne Gd]; exact h1, h2⟩
          · rw [upd_same, ex]
            unfold leavesOf
            rw [List.filter_append, List.filter_cons_of_pos (by simp [c]), List.map_append, List.map_append]
            rfl
        · rw [decide_eq_false (fun z => c (by have := V.int.inj z; omega))]
          refine iteF ⟨S2, C3, ?_⟩
          rw [ex]
          unfold leavesOf at *
          rw [List.filter_append, List.filter_cons_of_neg (by simp [c])]
          simpa using hG
      · obtain ⟨S2, C3, hG⟩ := hP
        rw [List.length_map, List.length_map, List.take_length] at hG
        exact .inl ⟨G, _, rfl, SqL.of hG, fun q1 nq1 => q _ q1 (same_new S2 nq1) (S2.free nq1) upd_same⟩
theorem tie2 {H : Hp} {i : Nat} {vs : List V} {ts : List Tie} {v : V} (h : DtAll H vs (ts.map tieD)) (hi : vs[i]? = some v) : ∃ (t : Tie) (p : Addr), ts[i]? = some t ∧ v = .ref p ∧ H p = some (.tup [.str (S t.1), .str (S t.2.1), .int t.2.2]) ∧ ts.take (i + 1) = ts.take i ++ [t] ∧ i < ts.length := by
  obtain ⟨t, p, e, h1, h2⟩ := tie_at h hi
  exact ⟨t, p, e, h1, h2, by rw [List.take_add_one, e]; rfl, (List.getElem?_eq_some_iff.mp e).1⟩
theorem ok_law_without {f : Addr} {fd : FuncData} (F : Fun K "_law_without" "_law_without" s_law_without f fd) (T : TxtF mg) (C_law_leaves : Cal P w K mg base 1 "_law_leaves" spLeaves) : FnOk P w K mg base CX0 2 f fd ["tree"] spWithout := by
  refine F.ok sc_law_without (fun vs H Q E h => ?_) (fun cdv A outer s H vs Q E hr h => ?_)
  · obtain ⟨v, pl, ts, rfl, _⟩ := h
    rfl
  · obtain ⟨v, pl, ts, rfl, hd, htr, hl, q⟩ := h
    obtain ⟨t, a, b, vs, rfl, ht, ha, hb, hA⟩ := dt_tree hd
    have tl := htr.len
    have vl : vs.length = ts.length := by
      have := DtAll.len hA
      rwa [List.length_map] at this
    refine ⟨_, (pss_cut (ps_if (pt_cmpR op_lt (pe_callB call_len_seq (by rfl) T.len bt_len (pa_cons (pe_ix ix_tup (pv 0) pe_int (fun _ _ => rfl)) pa_nil)) pe_int (nomark _))
        (pss_one (ps_ret (pv 0)))
        pss_nil)
      (pss_cons (ps_set (i := 1) sc_law_without.nd rfl (.inr rfl) (pe_c C_law_leaves hr (by decide) rfl (pa_cons (pv 0) pa_nil)))
      (pss_cons (ps_set (i := 2) sc_law_without.nd rfl (.inl rfl) (pe_tupleOf (by rfl) T.tuple (pe_lc (own := [("tie", 3)]) (g := gName 3)  rfl sc_law_without.nd (pi_tup (pe_ix ix_tup (pv 0) pe_int (fun _ _ => rfl))) (blkOk_by (N := N_law_without) (sc := defScope s_law_without) (by decide +kernel)) (fun _ _ _ _ _ => pg_name (i := 3) sc_law_without.nd rfl (Or.inl rfl)) (fun _ _ _ _ _ => pts_one (PW.pt (pw_and (pt_cmpR (notInK (K := K)) (pe_ix (ixt (K := K)) (pv 3) pe_int (fun _ _ => rfl)) (pv 1) rfl) (pw_and1 (pt_cmpR (notInK (K := K)) (pe_ix (ixt (K := K)) (pv 3) pe_int (fun _ _ => rfl)) (pv 1) rfl))))) (fun _ _ _ _ _ => (pv 3)))))
      (pss_one (ps_ret (pe_tup (pa_cons (pe_tupleOf (by rfl) T.tuple (pe_lc (own := [("place", 4)]) (g := gName 4)  rfl sc_law_without.nd (pi_tup (pe_ix ix_tup (pv 0) pe_int (fun _ _ => rfl))) (blkOk_by (N := N_law_without) (sc := defScope s_law_without) (by decide +kernel)) (fun _ _ _ _ _ => pg_name (i := 4) sc_law_without.nd rfl (Or.inl rfl)) (fun _ _ _ _ _ => pts_one (pt_cmpR (notInK (K := K)) (pv 4) (pv 1) rfl)) (fun _ _ _ _ _ => (pv 4)))) (pa_cons (pv 2) pa_nil)))))))), ?_⟩
    refine ⟨fun σ' H' => σ' = [some (.ref t), none, none, none, none] ∧ H' = H ∧ 2 < pl.length, ?_, fun σ' H' hM => ?_⟩
    · refine ⟨_, rfl, t, _, 0, .ref a, rfl, rfl, SqT.of ht, atI_nat (j := 0) rfl, a, _, rfl, .inr ha.sq, _, _, rfl, rfl, _, rfl, ?_⟩
      rw [List.length_map, List.length_map]
      by_cases c : pl.length ≤ 2
      · rw [decide_eq_true (show ((pl.length : Nat) : Int) < 3 by omega)]
        refine iteT ⟨_, rfl, q H _ (Same.refl H) ?_⟩
        have e : wi (pl, ts) = (pl, ts) := if_pos c
        rw [e]
        exact hd
      · rw [decide_eq_false (show ¬ ((pl.length : Nat) : Int) < 3 by omega)]
        exact iteF ⟨rfl, rfl, by omega⟩
    · obtain ⟨rfl, rfl, lt⟩ := hM
      have e : wi (pl, ts) = (butL pl (leavesOf pl ts), remL ts (leavesOf pl ts)) := if_neg (show ¬ pl.length ≤ 2 by omega)
      rw [e] at q
      have gl : (leavesOf pl ts).length ≤ 1000 := Nat.le_trans (List.length_filter_le ..) hl
      refine ⟨_, rfl, _, pl, ts, rfl, hd, hl, by omega, fun H1 g s1 ng hg => ?_⟩
      generalize leavesOf pl ts = ls at *
      refine ⟨_, rfl, t, _, 1, .ref b, rfl, rfl, SqT.of (s1 _ _ ht), atI_nat (j := 1) rfl, b, rfl, ⟨_, SqT.of (s1 _ _ hb)⟩, fun G nG => ?_⟩
      refine lc_tup (K := K) (a := b) (xs := vs) (fun i H'' => Same H' H'' ∧ H'' g = some (.tup ((ls.map S).map V.str)) ∧ ∃ ws, H'' G = some (.lst ws) ∧ DtAll H'' ws ((remL (ts.take i) ls).map tieD)) ⟨same_new s1 nG, by rw [upd_ne (ne_of_none hg nG)]; exact hg, [], upd_same, .nil⟩ (fun i H'' _ hP => SqT.of (hP.1 _ _ hb)) (fun i v H'' hi hP => ?_) (fun H'' hP => ?_)
      · obtain ⟨S3, hg3, ws, hG, hW⟩ := hP
        obtain ⟨t3, p3, ht3, rfl, hp3, et, il⟩ := tie2 (DtAll.keep (TK.of S3) hA) hi
        have wl : ws.length ≤ 1000 := by
          have := DtAll.len hW
          rw [this, List.length_map]
          unfold remL
          have := List.length_filter_le (fun t => !decide (t.1 ∈ ls) && !decide (t.2.1 ∈ ls)) (ts.take i)
          rw [List.length_take] at this
          omega
        have no : (!decide (t3.1 ∈ ls) && !decide (t3.2.1 ∈ ls)) = false → remL (ts.take (i + 1)) ls = remL (ts.take i) ls := fun z => by
          rw [et]
          unfold remL
          rw [List.filter_append, List.filter_cons_of_neg (by rw [z]; decide)]
          simp
        refine ⟨rfl, _, rfl, p3, _, 0, _, rfl, rfl, SqT.of hp3, atI_nat (j := 0) rfl, _, rfl, g, _, rfl, .inr (SqT.of hg3), rfl, flat_strs _, _, rfl, ?_⟩
        rw [inV_strs]
        by_cases c1 : t3.1 ∈ ls
        · rw [decide_eq_true c1]
          refine iteF (iteF ⟨S3, hg3, ws, hG, ?_⟩)
          rw [no (by simp [c1])]
          exact hW
        · rw [decide_eq_false c1]
          refine iteT ⟨_, rfl, p3, _, 1, _, rfl, rfl, SqT.of hp3, atI_nat (j := 1) rfl, _, rfl, g, _, rfl, .inr (SqT.of hg3), rfl, flat_strs _, _, rfl, ?_⟩
          rw [inV_strs]
          by_cases c2 : t3.2.1 ∈ ls
          · rw [decide_eq_true c2]
            refine iteF ⟨S3, hg3, ws, hG, ?_⟩
            rw [no (by simp [c2])]
            exact hW
          · rw [decide_eq_false c2]
            refine iteT ⟨_, rfl, _, hG, sz_lt (by omega), same_put S3 (s1.free nG), by rw [upd_ne (ne_of hg3 hG (by intro z; cases z))]; exact hg3, ws ++ [.ref p3], upd_same, ?_⟩
            have tk := TK.mut (o := .lst (ws ++ [.ref p3])) hG
            rw [et]
            unfold remL at *
            rw [List.filter_append, List.filter_cons_of_pos (by simp [c1, c2]), List.map_append]
            exact DtAll.app (DtAll.keep tk hW) (.cons (.tup (tk.tup _ _ hp3) (.cons (.str _) (.cons (.str _) (.cons (.int _) .nil)))) .nil)
      · obtain ⟨S3, hg3, ws, hG, hW⟩ := hP
        rw [vl, List.take_length] at hW
        refine .inl ⟨G, _, rfl, SqL.of hG, fun k nk => ?_⟩
        have S4 := same_new (o := .tup ws) S3 nk
        have hk : (upd H'' k (.tup ws)) k = some (.tup ws) := upd_same
        have hW4 := DtAll.keep (TK.new (o := .tup ws) nk) hW
        have hg4 : (upd H'' k (.tup ws)) g = some (.tup ((ls.map S).map V.str)) := by rw [upd_ne (ne_of_none hg3 nk)]; exact hg3
        generalize upd H'' k (.tup ws) = H5 at *
        refine ⟨_, rfl, t, _, 0, .ref a, rfl, rfl, SqT.of (S4 _ _ ht), atI_nat (j := 0) rfl, a, rfl, ⟨_, (ha.same S4).sq⟩, fun D nD => ?_⟩
        refine lc_tup (K := K) (a := a) (xs := (pl.map S).map V.str) (fun i H'' => Same H5 H'' ∧ H'' D = some (.lst (((butL (pl.take i) ls).map S).map V.str))) ⟨same_new (Same.refl _) nD, upd_same⟩ (fun i H'' _ hP => (ha.same (S4.trans hP.1)).sq) (fun i v H'' hi hP => ?_) (fun H'' hP => ?_)
        · obtain ⟨S6, hD⟩ := hP
          obtain ⟨x, hx, mx, rfl, ex⟩ := at_name hi
          have il := (List.getElem?_eq_some_iff.mp hx).1
          refine ⟨rfl, _, rfl, _, rfl, g, _, rfl, .inr (SqT.of (S6 _ _ hg4)), rfl, flat_strs _, _, rfl, ?_⟩
          rw [inV_strs]
          have bl : (butL (pl.take i) ls).length ≤ 1000 := by
            have := List.length_filter_le (fun x => !decide (x ∈ ls)) (pl.take i)
            rw [List.length_take] at this
            unfold butL
            omega
          by_cases c : x ∈ ls
          · rw [decide_eq_true c]
            refine iteF ⟨S6, ?_⟩
            rw [ex]
            unfold butL at *
            rw [List.filter_append, List.filter_cons_of_neg (by simp [c])]
            simpa using hD
          · rw [decide_eq_false c]
            refine iteT ⟨_, rfl, _, hD, by rw [List.length_map, List.length_map]; exact sz_lt (by omega), same_put S6 nD, ?_⟩
            rw [upd_same, ex]
            unfold butL
            rw [List.filter_append, List.filter_cons_of_pos (by simp [c]), List.map_append, List.map_append]
            rfl
        · obtain ⟨S6, hD⟩ := hP
          rw [List.length_map, List.length_map, List.take_length] at hD
          refine .inl ⟨D, _, rfl, SqL.of hD, fun k2 nk2 => ?_⟩
          refine ⟨_, rfl, (by show 2 ≤ sizeLine; decide), fun r nr => ?_⟩
          have tk1 : TK H'' (upd H'' k2 (.tup (((butL pl ls).map S).map V.str))) := TK.new nk2
          have tk2 : TK (upd H'' k2 (.tup (((butL pl ls).map S).map V.str))) (upd (upd H'' k2 (.tup (((butL pl ls).map S).map V.str))) r (.tup [.ref k2, .ref k])) := TK.new nr
          have tk := tk1.trans tk2
          have S7 := S4.trans S6
          refine q _ _ (same_new (same_new S7 nk2) nr) (.tup upd_same (.cons (.tup (tk2.tup _ _ upd_same) (dt_strs _ _)) (.cons (.tup (tk.tup _ _ (S6 _ _ hk)) (DtAll.keep ((TK.of S6).trans tk) hW4)) .nil)))
theorem ok_law_peeled {f : Addr} {fd : FuncData} (F : Fun K "_law_peeled" "_law_peeled" s_law_peeled f fd) (T : TxtF mg) (C_law_without : Cal P w K mg base 2 "_law_without" spWithout) : FnOk P w K mg base CX0 3 f fd ["tree"] spPeeled := by
  refine F.ok sc_law_peeled (fun vs H Q E h => ?_) (fun cdv A outer s H vs Q E hr h => ?_)
  · obtain ⟨v, pl, ts, rfl, _⟩ := h
    rfl
  · obtain ⟨v, pl, ts, rfl, hd, htr, hl, q⟩ := h
    refine ⟨_, (pss_cons (ps_set (i := 1) sc_law_peeled.nd rfl (.inl rfl) (pe_lst (pa_cons (pv 0) pa_nil)))
      (pss_cut (ps_while PassesOwn.never (pt_cmpR op_gt (pe_callB call_len_seq (by rfl) T.len bt_len (pa_cons (pe_ix ix_tup (pe_ix ix_list (pv 1) (pe_un un_neg pe_int) (fun _ _ => rfl)) pe_int (fun _ _ => rfl)) pa_nil)) pe_int (nomark _))
        (pss_one (ps_expr (pe_bm PySem.F.plainAttrs_list PySem.F.slot_list_append PySem.F.type_list_append mt_append (pv 1) (pa_cons (pe_c C_law_without hr (by decide) rfl (pa_cons (pe_ix ix_list (pv 1) (pe_un un_neg pe_int) (fun _ _ => rfl)) pa_nil)) pa_nil)))))
      (pss_one (ps_ret (pv 1))))), ?_⟩
    refine ⟨_, rfl, by show 1 ≤ sizeLine; rw [sizeLine_eq]; decide, fun a na => ?_⟩
    have nd0 := htr.nodup
    refine ⟨fun σ' H' => σ' = [some v, some (.ref a)] ∧ ∃ (us : List V) (L : List Tr2) (X : Tr2), Same H H' ∧ H' a = some (.lst us) ∧ DtAll H' us ((L ++ [X]).map treeP) ∧ PeelAt (pl, ts) L X ∧ X.1.length ≤ 2, ?_, fun σ' H' hM => ?_⟩
    · refine ⟨fun m σ H' => σ = [some v, some (.ref a)] ∧ ∃ (us : List V) (L : List Tr2) (X : Tr2), Same H H' ∧ H' a = some (.lst us) ∧ DtAll H' us ((L ++ [X]).map treeP) ∧ PeelAt (pl, ts) L X ∧ m = X.1.length, ⟨pl.length, ?_⟩, ?_⟩
      · have tk := TK.new (o := .lst [v]) na
        exact ⟨rfl, [v], [], (pl, ts), same_new (Same.refl H) na, upd_same, .cons (hd.keep tk) .nil, .start htr, rfl⟩
      · rintro m σ' H' ⟨rfl, us, L, X, S1, ha, hA, hP, rfl⟩
        obtain ⟨us', x, rfl, hx⟩ := dt_snoc hA
        obtain ⟨t, p, b, vs, rfl, ht, hp, hb, hB⟩ := dt_tree hx
        refine ⟨_, rfl, 1, rfl, a, _, -1, .ref t, rfl, rfl, SqL.of ha, atI_last _ _, t, _, 0, .ref p, rfl, rfl, SqT.of ht, atI_nat (j := 0) rfl, p, _, rfl, .inr hp.sq, _, _, rfl, rfl, _, rfl, ?_⟩
        rw [List.length_map, List.length_map]
        have ul : us'.length = L.length := by
          have := DtAll.len hA
          rw [List.length_append, List.length_map, List.length_append] at this
          simpa using this
        have Ll : L.length + X.1.length ≤ 1000 := Nat.le_trans hP.2.1 hl
        by_cases c : X.1.length ≤ 2
        · rw [decide_eq_false (show ¬ (2 : Int) < ((X.1.length : Nat) : Int) by omega)]
          exact iteF ⟨rfl, _, L, X, S1, ha, hA, hP, c⟩
        · rw [decide_eq_true (show (2 : Int) < ((X.1.length : Nat) : Int) by omega)]
          refine iteT ⟨fun σ' H'' => ∃ (us2 : List V), σ' = [some v, some (.ref a)] ∧ Same H H'' ∧ H'' a = some (.lst us2) ∧ DtAll H'' us2 (((L ++ [X]) ++ [wi X]).map treeP), ?_, ?_⟩
          · rintro σ' H'' ⟨us2, e, S2, ha2, hA2⟩
            exact ⟨_, wi_less hP.1 (by omega), e, us2, L ++ [X], wi X, S2, ha2, hA2, hP.step (by omega), rfl⟩
          · refine ⟨_, rfl, .inl ⟨rfl, _, SqL.of ha⟩, _, rfl, 1, rfl, a, _, -1, .ref t, rfl, rfl, SqL.of ha, atI_last _ _, _, X.1, X.2, rfl, hx, hP.1, by omega, fun H2 r s2 hr2 => ?_⟩
            have ha2 := s2 _ _ ha
            have tk := TK.mut (o := .lst (us' ++ [.ref t] ++ [r])) ha2
            refine ⟨a, _, _, rfl, rfl, ha2, by rw [List.length_append, List.length_singleton]; exact sz_lt (by omega), us' ++ [.ref t] ++ [r], rfl, same_put (S1.trans s2) na, upd_same, ?_⟩
            rw [List.map_append]
            exact DtAll.app (DtAll.keep ((TK.of s2).trans tk) hA) (.cons (hr2.keep tk) .nil)
    · obtain ⟨rfl, us, L, X, S1, ha, hA, ⟨p1, p2, p3, p4, p5, p6⟩, c⟩ := hM
      refine ⟨_, rfl, q H' a us (L ++ [X]) S1 na ha hA (p6 _ (.one c)) ?_ fun Y hY => ?_⟩
      · rw [List.length_append, List.length_singleton]
        have : 1 ≤ X.1.length := by have := p1.len; omega
        have : pl.length ≤ 1000 := hl
        show L.length + 1 ≤ 1000
        have p2 : L.length + X.1.length ≤ pl.length := p2
        omega
      · rcases List.mem_append.mp hY with w | w
        · exact p5 Y w
        · rw [List.mem_singleton.mp w]
          exact ⟨p1, p4⟩
end
end Far

namespace Far
open PySem PySem.Spec PyProof.Rows L2
open C8 (pss_cut tCut)
open SX (S)
theorem eqv_same {d : PyData} (h : SeqAt.shaped d = true) : PyData.eqv d d = true := SeqAt.eqv_refl d (by
  unfold SeqAt.shaped at h
  simp at h
  exact h.1)
theorem ties_lay : ∀ {ts : List Tie}, (∀ e ∈ ts, NameOk e.1 ∧ NameOk e.2.1) → PyData.canLayAll0 (ts.map tieD) = true ∧ PyData.depthAll (ts.map tieD) ≤ 1
  | [], _ => ⟨rfl, Nat.zero_le _⟩
  | e :: r, h => by
    obtain ⟨h1, h2⟩ := ties_lay fun x hx => h x (List.mem_cons.mpr (.inr hx))
    obtain ⟨a, b⟩ := h e (List.mem_cons.mpr (.inl rfl))
    refine ⟨?_, ?_⟩
    · show ((PyData.strOk (S e.1) && (PyData.strOk (S e.2.1) && (true && true))) && PyData.canLayAll0 (r.map tieD)) = true
      rw [strOk_S a, strOk_S b, h1]
      rfl
    · show max (max 0 (max 0 (max 0 0)) + 1) (PyData.depthAll (r.map tieD)) ≤ 1
      omega
theorem shaped_tree {pl : List Nm} {ts : List Tie} (h1 : ∀ l ∈ pl, NameOk l) (h2 : ∀ e ∈ ts, NameOk e.1 ∧ NameOk e.2.1) : SeqAt.shaped (treeD pl ts) = true := by
  have a : PyData.canLayAll0 (pl.map strD) = true := lay_strs h1
  have b : PyData.depthAll (pl.map strD) = 0 := dep_strs pl
  obtain ⟨c, e⟩ := ties_lay h2
  show ((PyData.canLayAll0 (pl.map strD) && (PyData.canLayAll0 (ts.map tieD) && true)) && decide (max (PyData.depthAll (pl.map strD) + 1) (max (PyData.depthAll (ts.map tieD) + 1) 0) + 1 ≤ 64)) = true
  rw [a, b, c, decide_eq_true (by omega)]
  rfl
theorem plain_tree {pl : List Nm} {ts : List Tie} (h1 : pl.length ≤ 1000) (h2 : ts.length ≤ 1000) : Plain 4 (treeD pl ts) := by
  refine .tup (fun d hd => ?_) (by show 2 ≤ 1000; decide)
  simp only [List.mem_cons, List.not_mem_nil, or_false] at hd
  rcases hd with e | e <;> subst e
  · exact .tup (fun d hd => by obtain ⟨x, _, rfl⟩ := List.mem_map.mp hd; exact .str _ _) (by rw [List.length_map]; exact h1)
  · refine .tup (fun d hd => ?_) (by rw [List.length_map]; exact h2)
    obtain ⟨x, _, rfl⟩ := List.mem_map.mp hd
    refine .tup (fun d hd => ?_) (by show 3 ≤ 1000; decide)
    simp only [List.mem_cons, List.not_mem_nil, or_false] at hd
    rcases hd with e | e | e <;> subst e
    · exact .str _ _
    · exact .str _ _
    · exact .int _ _
theorem shaped_trees {L : List Tr2} (h : ∀ Y ∈ L, (∀ l ∈ Y.1, NameOk l) ∧ ∀ e ∈ Y.2, NameOk e.1 ∧ NameOk e.2.1) : SeqAt.shaped (.list (L.map treeP)) = true := by
  have z : PyData.canLayAll0 (L.map treeP) = true ∧ PyData.depthAll (L.map treeP) ≤ 3 := by
    induction L with
    | nil => exact ⟨rfl, Nat.zero_le _⟩
    | cons Y r ih =>
      obtain ⟨i1, i2⟩ := ih fun X hX => h X (List.mem_cons_of_mem _ hX)
      obtain ⟨y1, y2⟩ := h Y List.mem_cons_self
      have a : PyData.canLayAll0 (Y.1.map strD) = true := lay_strs y1
      have b : PyData.depthAll (Y.1.map strD) = 0 := dep_strs Y.1
      obtain ⟨c, e⟩ := ties_lay y2
      constructor
      · show ((PyData.canLayAll0 (Y.1.map strD) && (PyData.canLayAll0 (Y.2.map tieD) && true)) && PyData.canLayAll0 (r.map treeP)) = true
        rw [a, c, i1]
        rfl
      · show max (max (PyData.depthAll (Y.1.map strD) + 1) (max (PyData.depthAll (Y.2.map tieD) + 1) 0) + 1) (PyData.depthAll (r.map treeP)) ≤ 3
        omega
  show (PyData.canLayAll0 (L.map treeP) && decide (PyData.depthAll (L.map treeP) + 1 ≤ 64)) = true
  rw [z.1, decide_eq_true (by omega)]
  rfl
theorem plain_trees {L : List Tr2} (h : ∀ Y ∈ L, Y.1.length ≤ 1000 ∧ Y.2.length ≤ 1000) (l : L.length ≤ 1000) : Plain 5 (.tuple (L.map treeP)) := by
  refine .tup (fun d hd => ?_) (by rw [List.length_map]; exact l)
  obtain ⟨Y, hY, rfl⟩ := List.mem_map.mp hd
  exact plain_tree (h Y hY).1 (h Y hY).2
abbrev s_law_peeled_right : Stmt := topS 29
abbrev N_law_peeled_right : List Str := ["tree", "due", "found"]
theorem sc_law_peeled_right : FnScope N_law_peeled_right ["tree"] (defScope s_law_peeled_right) := ⟨rfl, rfl, rfl, by decide +kernel, rfl, by decide +kernel, by decide +kernel⟩
section
variable {P : Program} {w : World} {K : PySem.W.Frag} {mg : Str → Option Value} {base : Heap}
structure TxtR (mg : Str → Option Value) : Prop where
  isinstance : mg "isinstance" = none
  list : mg "list" = none
  tuple : mg "tuple" = none
def spPR : Sp := fun vs H Q _ => ∃ (v : V) (pl : List Nm) (ts : List Tie), vs = [v] ∧ Dt H v (treeD pl ts) ∧ Fine pl ts ∧ ∀ H' : Hp, Same H H' → Q (.bl true) H'
theorem ok_law_pr {f : Addr} {fd : FuncData} (F : Fun K "_law_peeled_right" "_law_peeled_right" s_law_peeled_right f fd) (T : TxtR mg) (C_law_peeled : Cal P w K mg base 3 "_law_peeled" spPeeled) (Cpeeled : Cal P w K mg base 3 "peeled" spPeeled) (C_law_same : Cal P w K mg base 6 "_law_same" (spSame 5)) : FnOk P w K mg base CX0 7 f fd ["tree"] spPR := by
  refine F.ok sc_law_peeled_right (fun vs H Q E h => ?_) (fun cdv A outer s H vs Q E hr h => ?_)
  · obtain ⟨v, pl, ts, rfl, _⟩ := h
    rfl
  · obtain ⟨v, pl, ts, rfl, hd, fine, q⟩ := h
    have tr := fine.tree
    have pl1 := fine.len
    refine ⟨_, (pss_cons (ps_set (i := 1) sc_law_peeled_right.nd rfl (.inl rfl) (pe_c C_law_peeled hr (by decide) rfl (pa_cons (pv 0) pa_nil)))
      (pss_cons (ps_set (i := 2) sc_law_peeled_right.nd rfl (.inl rfl) (pe_c Cpeeled hr (by decide) rfl (pa_cons (pv 0) pa_nil)))
      (pss_cut (ps_if (PW.pt (pw_or (pt_not (pt_val (pe_callB call_isi (by rfl) T.isinstance bt_isinstance (pa_cons (pv 2) (pa_cons (pe_bltn (v := .ty "list") (by rfl) T.list bt_list rfl) pa_nil))))) (pw_or1 (pt_not (pt_val (pe_c C_law_same hr (by decide) rfl (pa_cons (pe_tupleOf (by rfl) T.tuple (pv 2)) (pa_cons (pe_tupleOf (by rfl) T.tuple (pv 1)) pa_nil))))))))
        (pss_one (ps_ret pe_bl))
        pss_nil)
      (pss_cons (ps_expr (pe_bm PySem.F.plainAttrs_list PySem.F.slot_list_append PySem.F.type_list_append mt_append (pv 2) (pa_cons pe_non pa_nil)))
      (pss_cons (ps_asg pe_non (pg_sub (pv 2) pe_int set_list))
      (pss_one (ps_ret (pe_cmpR (op_eqD (hd_of hr (by decide))) (pe_c Cpeeled hr (by decide) rfl (pa_cons (pv 0) pa_nil)) (pv 1) (nomark _))))))))), ?_⟩
    refine ⟨_, rfl, v, pl, ts, rfl, hd, tr, pl1, fun H1 r us L S1 nr hr1 hL1 pe ll iL => ?_⟩
    refine ⟨_, rfl, v, pl, ts, rfl, Dt.keep (TK.of S1) hd, tr, pl1, fun H2 r2 us2 L2 S2 nr2 hr2 hL2 pe2 _ _ => ?_⟩
    obtain rfl := pe.det pe2
    have hL3 := DtAll.keep (TK.of S2) hL1
    have ok : ∀ Y ∈ L, (∀ l ∈ Y.1, NameOk l) ∧ ∀ e ∈ Y.2, NameOk e.1 ∧ NameOk e.2.1 := fun Y hY => by
      obtain ⟨y1, y2⟩ := iL Y hY
      refine ⟨fun l hl => fine.ok l (y2 l hl), fun e he => ?_⟩
      obtain ⟨e1, e2, _⟩ := y1.ties e he
      exact ⟨fine.ok _ (y2 _ e1), fine.ok _ (y2 _ e2)⟩
    have sz : ∀ Y ∈ L, Y.1.length ≤ 1000 ∧ Y.2.length ≤ 1000 := fun Y hY => by
      obtain ⟨y1, y2⟩ := iL Y hY
      have := List.Nodup.length_le_of_subset y1.nodup y2
      have := y1.len
      omega
    refine ⟨fun σ' H' => σ' = [some v, some (.ref r), some (.ref r2)] ∧ Same H2 H', ?_, fun σ' H' hM => ?_⟩
    · refine ⟨_, rfl, _, _, _, _, true, rfl, .ty _, .base (.lst hr2), kit_cls K (by decide +kernel), _, rfl, iteF ?_⟩
      refine ⟨_, rfl, .inl ⟨r2, _, rfl, SqL.of hr2, fun p np => ?_⟩⟩
      have s3 := same_new (o := .tup us2) (Same.refl H2) np
      refine ⟨_, rfl, .inl ⟨r, _, rfl, SqL.of (s3 _ _ (S2 _ _ hr1)), fun p2 np2 => ?_⟩⟩
      have s4 := same_new (o := .tup us) s3 np2
      have e1 : (upd (upd H2 p (.tup us2)) p2 (.tup us)) p = some (.tup us2) := by rw [upd_ne (ne_of_none upd_same np2), upd_same]
      refine ⟨_, _, .tuple (L.map treeP), rfl, .tup e1 (DtAll.keep (TK.of s4) hL2), .tup upd_same (DtAll.keep (TK.of s4) hL3), plain_trees sz ll, fun H5 S5 => ?_⟩
      exact ⟨_, rfl, iteF ⟨rfl, s4.trans S5⟩⟩
    · obtain ⟨rfl, S3⟩ := hM
      have hr23 := S3 _ _ hr2
      refine ⟨_, rfl, .inl ⟨rfl, _, SqL.of hr23⟩, r2, _, _, rfl, rfl, hr23, sz_lt (by have := DtAll.len hL2; rw [List.length_map] at this; omega), ?_⟩
      have nr2H : H r2 = none := S1.free nr2
      have s23 := S2.trans S3
      have s4 := same_put (o := .lst (us2 ++ [.non])) s23 nr2
      have i0 : ixN (us2 ++ [V.non]).length 0 = some 0 := by
        unfold ixN
        rw [if_pos (Int.le_refl _), if_pos (by rw [List.length_append, List.length_singleton]; omega)]
        rfl
      refine ⟨_, rfl, r2, _, 0, 0, rfl, rfl, upd_same, i0, ?_⟩
      have s5 := same_put (o := .lst ((us2 ++ [V.non]).set 0 .non)) s4 nr2
      generalize (upd (upd H' r2 (.lst (us2 ++ [V.non]))) r2 (.lst ((us2 ++ [V.non]).set 0 .non))) = H4 at s5 ⊢
      refine ⟨_, rfl, v, pl, ts, rfl, Dt.keep (TK.of (S1.trans s5)) hd, tr, pl1, fun H5 r3 us3 L3 S5 nr3 hr3 hL5 pe3 _ _ => ?_⟩
      obtain rfl := pe.det pe3
      have s6 := s5.trans S5
      refine ⟨_, rfl, .list (L.map treeP), .list (L.map treeP), .lst (SqL.of hr3) (DtAll.dp hL5), .lst (SqL.of (s6 _ _ hr1)) (DtAll.dp (DtAll.keep (TK.of s6) hL1)), shaped_trees ok, shaped_trees ok, ?_⟩
      rw [eqv_same (shaped_trees ok)]
      exact q _ (S1.trans s6)
end
end Far

namespace Far
open PySem PySem.Spec PyProof.Rows L2
open C8 (pss_cut tCut)
open SX (S)
theorem enumT_it {K : PySem.W.Frag} {a : Addr} {xs : List V} {g : TG} {tt : TT} {te : TE} {vs : List Nat} {σ : L2.St} {H1 : Hp} {D : Addr} {Qd : Hp → Prop} (Pv : Nat → Hp → Prop) (h0 : Pv 0 (upd H1 D (.lst []))) (hl : ∀ i H, Pv i H → SqT K H a xs)
    (hs : ∀ i x H T, xs[i]? = some x → Pv i H → H T = none → g (.ref T) (wipe σ vs) (upd H T (.tup [.int (i : Nat), x])) fun σ2 H2 => wipe σ2 vs = wipe σ vs ∧ tt σ2 H2 fun b H3 =>
      if b = true then te σ2 H3 fun y H4 => ∃ acc, H4 D = some (.lst acc) ∧ acc.length < sizeLine ∧ Pv (i + 1) (upd H4 D (.lst (acc ++ [y]))) else Pv (i + 1) H3) (hd : ∀ H, Pv xs.length H → Qd H) :
    ∃ W : Nat → Nat → Hp → Prop, (∃ m, W 0 m (upd H1 D (.lst []))) ∧ ∀ i m H, W i m H →
      ((Itne K a).stop i H ∧ Qd H) ∨ ((Itne K a).go i H ∧ ∃ Nx : Hp → Prop, (∀ H', Nx H' → ∃ m', m' < m ∧ W (i + 1) m' H') ∧ ∀ v H', (Itne K a).yld i H v H' → g v (wipe σ vs) H' fun σ2 H2 => wipe σ2 vs = wipe σ vs ∧ tt σ2 H2 fun b H3 =>
        if b = true then te σ2 H3 fun y H4 => ∃ acc, H4 D = some (.lst acc) ∧ acc.length < sizeLine ∧ Nx (upd H4 D (.lst (acc ++ [y]))) else Nx H3) := by
  refine ⟨fun i m H => m = xs.length - i ∧ i ≤ xs.length ∧ Pv i H, ⟨xs.length, by simp, Nat.zero_le _, h0⟩, fun i m H ⟨em, hi, p⟩ => ?_⟩
  have q1 := hl i H p
  by_cases lt : i < xs.length
  · refine .inr ⟨⟨xs, xs[i], q1, by simp [lt]⟩, Pv (i + 1), fun H' p' => ⟨xs.length - (i + 1), by omega, rfl, lt, p'⟩, fun v H' ⟨T, x, ev, nT, eH, hx⟩ => ?_⟩
    rw [ev, eH]
    exact hs i x H T (hx xs q1) p nT
  · have e : i = xs.length := by omega
    rw [e] at p
    exact .inl ⟨⟨xs, q1, by omega⟩, hd H p⟩
def nI (l : List Nat) : List V := l.map fun (n : Nat) => V.int (n : Int)
theorem nI_map (l : List Nat) : nI l = (iL l).map V.int := by unfold nI iL; rw [List.map_map]; rfl
theorem iL_sum : ∀ l : List Nat, (iL l).sum = ((l.sum : Nat) : Int)
  | [] => rfl
  | n :: l => by
    show (n : Int) + (iL l).sum = _
    rw [iL_sum l, List.sum_cons]
    omega
def BestAt (H : Hp) (v : V) : Option (List Nat) → Prop
  | none => v = .non
  | some B => ∃ b, v = .ref b ∧ H b = some (.lst (nI B))
theorem or_rd {tA tB : TT} {σ : L2.St} {H : Hp} {Q : Bool → Hp → Prop} (a b : Bool) (hA : ∀ R : Bool → Hp → Prop, R a H → tA σ H R) (hB : a = false → ∀ R : Bool → Hp → Prop, R b H → tB σ H R) (q : Q (a || b) H) : tOr tA tB σ H Q := by
  refine hA _ ?_
  cases a with
  | true => exact iteT q
  | false => exact iteF (hB rfl _ q)
theorem and_rd {tA tB : TT} {σ : L2.St} {H : Hp} {Q : Bool → Hp → Prop} (a b : Bool) (hA : ∀ R : Bool → Hp → Prop, R a H → tA σ H R) (hB : a = true → ∀ R : Bool → Hp → Prop, R b H → tB σ H R) (q : Q (a && b) H) : tAnd tA tB σ H Q := by
  refine hA _ ?_
  cases a with
  | true => exact iteT (hB rfl _ q)
  | false => exact iteF q
theorem nI_len (l : List Nat) : (nI l).length = l.length := List.length_map ..
theorem nI_at {l : List Nat} {i : Nat} {v : V} (h : (nI l)[i]? = some v) : ∃ n, l[i]? = some n ∧ v = .int (n : Int) ∧ l.take (i + 1) = l.take i ++ [n] := by
  unfold nI at h
  rw [List.getElem?_map] at h
  cases e : l[i]? with
  | none => rw [e] at h; cases h
  | some n => rw [e] at h; exact ⟨n, rfl, (Option.some.inj h).symm, by rw [List.take_add_one, e]; rfl⟩
abbrev s_law_fewest : Stmt := topS 27
abbrev N_law_fewest : List Str := ["tree", "length", "many", "near", "place", "lengths", "at", "best", "own", "picked", "seen", "other"]
theorem sc_law_fewest : FnScope N_law_fewest ["tree", "length"] (defScope s_law_fewest) := ⟨rfl, rfl, rfl, by decide +kernel, rfl, by decide +kernel, by decide +kernel⟩
structure TxtW2 (mg : Str → Option Value) : Prop where
  len : mg "len" = none
  sum : mg "sum" = none
  range : mg "range" = none
  enumerate : mg "enumerate" = none
  tuple : mg "tuple" = none
section
variable {P : Program} {w : World} {K : PySem.W.Frag} {mg : Str → Option Value} {base : Heap}
def spLFew : Sp := fun vs H Q _ => ∃ (v : V) (pl : List Nm) (ts : List Tie) (L : Int), vs = [v, .int L] ∧ Dt H v (treeD pl ts) ∧ Fine pl ts ∧ 0 ≤ L ∧ pl.length ≤ 12 ∧
  ∀ (H' : Hp) (q : Addr) (g : Nat → Bool), Same H H' → H q = none → FewIs pl ts L g → H' q = some (.tup (((nms pl (pk g 0 pl.length)).map S).map V.str)) → Q (.ref q) H'
theorem ok_law_fewest {f : Addr} {fd : FuncData} (F : Fun K "_law_fewest" "_law_fewest" s_law_fewest f fd) (T : TxtW2 mg) (C_law_lengths : Cal P w K mg base 2 "_law_lengths" spLay) : FnOk P w K mg base CX0 3 f fd ["tree", "length"] spLFew := by
  refine F.ok sc_law_fewest (fun vs H Q E h => ?_) (fun cdv A outer s H vs Q E hr h => ?_)
  · obtain ⟨v, pl, ts, L, rfl, _⟩ := h
    rfl
  · obtain ⟨v, pl, ts, L, rfl, hd, fine, hL, l12, q⟩ := h
    obtain ⟨t, a, b, vs, rfl, ht, ha, hb, hA⟩ := dt_tree hd
    have pl1 := fine.len
    have nd := fine.tree.nodup
    refine ⟨_, (pss_cons (ps_set (i := 2) sc_law_fewest.nd rfl (.inr rfl) (pe_callB call_len_seq (by rfl) T.len bt_len (pa_cons (pe_ix ix_tup (pv 0) pe_int (fun _ _ => rfl)) pa_nil)))
      (pss_cons (ps_set (i := 3) sc_law_fewest.nd rfl (.inl rfl) (pe_lst pa_nil))
      (pss_cut (ps_for PassesOwn.never rfl (pi_tup (pe_ix ix_tup (pv 0) pe_int (fun _ _ => rfl))) (pg_name (i := 4) sc_law_fewest.nd rfl (.inl rfl))
        (pss_cons (ps_set (i := 5) sc_law_fewest.nd rfl (.inr rfl) (pe_c C_law_lengths hr (by decide) rfl (pa_cons (pv 0) (pa_cons (pv 4) pa_nil))))
        (pss_one (ps_expr (pe_bm PySem.F.plainAttrs_list PySem.F.slot_list_append PySem.F.type_list_append mt_append (pv 3) (pa_cons (pe_callB (cr_sum rfl) (by rfl) T.sum bt_sum (pa_cons (pe_lc (own := [("at", 6), ("other", 11)]) (g := gTup K 2 (gCons (gName 6) (gCons (gName 11) gNil)))  rfl sc_law_fewest.nd (pi_enumT (by rfl) T.enumerate (pa_cons (pe_ix ix_tup (pv 0) pe_int (fun _ _ => rfl)) pa_nil) rfl) (blkOk_by (N := N_law_fewest) (sc := defScope s_law_fewest) (by decide +kernel)) (fun _ _ _ _ _ => (pg_tup rfl (pgs_cons (pg_name (i := 6) sc_law_fewest.nd rfl (.inl rfl)) (pgs_cons (pg_name (i := 11) sc_law_fewest.nd rfl (.inl rfl)) pgs_nil)))) (fun _ _ _ _ _ => pts_one (pt_cmpR op_le (pe_dget (hu_of hr) (pv 5) (pv 11) (fun _ _ => rfl)) (pv 1) (nomark _))) (fun _ _ _ _ _ => (pe_op op_oneShlK pe_int (pe_op op_sub (pe_op op_sub (pv 2) pe_int) (pv 6))))) pa_nil)) pa_nil))))))
      (pss_cons (ps_set (i := 7) sc_law_fewest.nd rfl (.inl rfl) pe_non)
      (pss_cut (ps_for PassesOwn.never rfl (pi_range2 (by rfl) T.range (pa_cons pe_int (pa_cons (pe_op op_oneShlK pe_int (pv 2)) pa_nil))) (pg_name (i := 8) sc_law_fewest.nd rfl (.inr rfl))
        (pss_cons (ps_setLc (i := 9) (own := [("at", 6)]) (g := gName 6)  rfl sc_law_fewest.nd rfl rfl (sw_true rfl rfl rfl (by decide +kernel)) (pi_range1 (by rfl) T.range (pa_cons (pv 2) pa_nil)) (blkOk_by (N := N_law_fewest) (sc := defScope s_law_fewest) (by decide +kernel)) (fun _ _ _ _ _ => pg_name (i := 6) sc_law_fewest.nd rfl (Or.inl rfl)) (fun _ _ _ _ _ => pts_one (pt_cmpR op_eq (pe_op op_odd (pe_op op_shrK (pv 8) (pe_op op_sub (pe_op op_sub (pv 2) pe_int) (pv 6))) pe_int) pe_int (nomark _))) (fun _ _ _ _ _ => (pv 6)))
        (pss_one (ps_if (PW.pt (pw_or (pt_cmpR op_isN (pv 7) pe_non (nomark _)) (pw_or1 (pt_cmpR op_le (pe_callB call_len_seq (by rfl) T.len bt_len (pa_cons (pv 9) pa_nil)) (pe_callB call_len_seq (by rfl) T.len bt_len (pa_cons (pv 7) pa_nil)) (nomark _)))))
          (pss_cons (ps_set (i := 10) sc_law_fewest.nd rfl (.inl rfl) pe_int)
          (pss_cut (ps_for PassesOwn.never rfl (pi_list (pv 9)) (pg_name (i := 6) sc_law_fewest.nd rfl (.inl rfl))
            (pss_one (ps_set (i := 10) sc_law_fewest.nd rfl (.inl rfl) (pe_op op_orK (pv 10) (pe_ix ix_list (pv 3) (pv 6) (fun _ _ => rfl))))))
          (pss_one (ps_if (PW.pt (pw_and (pt_cmpR op_eq (pv 10) (pe_op op_sub (pe_op op_oneShlK pe_int (pv 2)) pe_int) (nomark _)) (pw_and1 (PW.pt (pw_or (pt_cmpR op_isN (pv 7) pe_non (nomark _)) (pw_or (pt_cmpR op_lt (pe_callB call_len_seq (by rfl) T.len bt_len (pa_cons (pv 9) pa_nil)) (pe_callB call_len_seq (by rfl) T.len bt_len (pa_cons (pv 7) pa_nil)) (nomark _)) (pw_or1 (pt_cmpR (op_ltL (K := K) (hd_of hr (by decide))) (pv 9) (pv 7) (nomark _)))))))))
            (pss_one (ps_set (i := 7) sc_law_fewest.nd rfl (.inl rfl) (pv 9)))
            pss_nil))))
          pss_nil))))
      (pss_one (ps_ret (pe_tupleOf (by rfl) T.tuple (pe_lc (own := [("at", 6)]) (g := gName 6) (tt := tYes) rfl sc_law_fewest.nd (pi_list (pv 7)) (blkOk_by (N := N_law_fewest) (sc := defScope s_law_fewest) (by decide +kernel)) (fun _ _ _ _ _ => pg_name (i := 6) sc_law_fewest.nd rfl (Or.inl rfl)) (fun _ _ _ _ _ => pts_nil) (fun _ _ _ _ _ => (pe_ix (ixt (K := K)) (pe_ix (ixt (K := K)) (pv 0) pe_int (fun _ _ => rfl)) (pv 6) (fun _ _ => rfl)))))))))))), ?_⟩
    refine ⟨_, rfl, t, _, 0, .ref a, rfl, rfl, SqT.of ht, atI_nat (j := 0) rfl, a, _, rfl, .inr ha.sq, ?_⟩
    refine ⟨Nat.zero_le _, fun N nN => ?_⟩
    rw [List.length_map, List.length_map]
    generalize en : pl.length = n at *
    have S1 := same_new (o := .lst []) (Same.refl H) nN
    refine ⟨fun σ' H' => ∃ (x4 x5 x6 x11 : Option V), σ' = [some (.ref t), some (.int L), some (.int (n : Nat)), some (.ref N), x4, x5, x6, none, none, none, none, x11] ∧ Same H H' ∧ H' N = some (.lst (nI (pl.map (mkN pl ts L)))), ?_, fun σ' H' hM => ?_⟩
    · refine ⟨_, rfl, t, _, 0, .ref a, rfl, rfl, SqT.of (S1 _ _ ht), atI_nat (j := 0) rfl, a, rfl, ⟨_, (ha.same S1).sq⟩, ?_⟩
      refine for_tup (K := K) (a := a) (xs := (pl.map S).map V.str) (fun i σ' H' => ∃ (x4 x5 x6 x11 : Option V), σ' = [some (.ref t), some (.int L), some (.int (n : Nat)), some (.ref N), x4, x5, x6, none, none, none, none, x11] ∧ Same H H' ∧ H' N = some (.lst (nI ((pl.take i).map (mkN pl ts L))))) ⟨_, _, _, _, rfl, S1, upd_same⟩ (fun i σ' H' _ hP => ?_) (fun i x σ' H' hi hP => ?_) (fun σ' H' hP => ?_)
      · obtain ⟨_, _, _, _, _, h1, _⟩ := hP
        exact (ha.same h1).sq
      · obtain ⟨x4, x5, x6, x11, rfl, S2, hN⟩ := hP
        obtain ⟨u, eu, mu, rfl, et⟩ := at_name hi
        have il := (List.getElem?_eq_some_iff.mp eu).1
        refine ⟨_, rfl, _, rfl, _, pl, ts, u, rfl, Dt.keep (TK.of S2) hd, fine, mu, fun H3 D fs s3 nD hD nf inf => ?_⟩
        have S3 := S2.trans s3
        have hN3 := s3 _ _ hN
        refine ⟨_, rfl, .inl ⟨rfl, _, SqL.of hN3⟩, _, rfl, t, _, 0, .ref a, rfl, rfl, SqT.of (S3 _ _ ht), atI_nat (j := 0) rfl, a, _, rfl, (ha.same S3).sq, fun G nG => ?_⟩
        have GN : N ≠ G := ne_of_none hN3 nG
        refine enumT_it (K := K) (a := a) (xs := (pl.map S).map V.str) (fun j H' => Same H3 H' ∧ H' G = some (.lst (nI (((List.range j).filter fun k => nearB ts L u (nm pl k)).map fun a => 2 ^ (n - 1 - a))))) ⟨same_new (Same.refl H3) nG, upd_same⟩ (fun j H' hP => (ha.same (S3.trans hP.1)).sq) (fun j x H' T hx hP nT => ?_) (fun H' hP => ?_)
        · obtain ⟨S4, hG⟩ := hP
          obtain ⟨y, ey, my, rfl, _⟩ := at_name hx
          have jl := (List.getElem?_eq_some_iff.mp ey).1
          have enm : nm pl j = y := by
            have := (nm_mem jl).2
            rw [ey] at this
            exact (Option.some.inj this).symm
          have GT : G ≠ T := ne_of_none hG nT
          have S5 := same_new (o := .tup [.int (j : Nat), .str (S y)]) S4 nT
          have hg : DGet (upd H' T (.tup [.int (j : Nat), .str (S y)])) D (.str (S y)) (some (.int (dist ts u y))) := by
            have := DGet.k (k := Sum.inr (S y)) (S5 _ _ hD)
            rw [dkm_get ((inf y).mpr my)] at this
            exact this
          refine ⟨T, _, rfl, SqT.of upd_same, rfl, _, _, rfl, _, _, rfl, rfl, rfl, ?_⟩
          refine ⟨_, rfl, _, rfl, D, _, rfl, hg, _, rfl, _, _, rfl, rfl, _, rfl, ?_⟩
          have snoc : nearB ts L u y = true → ((List.range (j + 1)).filter fun k => nearB ts L u (nm pl k)) = ((List.range j).filter fun k => nearB ts L u (nm pl k)) ++ [j] := fun c => by
            rw [List.range_succ, List.filter_append, List.filter_cons_of_pos (by rw [enm]; exact c)]
            rfl
          have none' : nearB ts L u y = false → ((List.range (j + 1)).filter fun k => nearB ts L u (nm pl k)) = ((List.range j).filter fun k => nearB ts L u (nm pl k)) := fun c => by
            rw [List.range_succ, List.filter_append, List.filter_cons_of_neg (by rw [enm, c]; decide)]
            simp
          have fl : ((List.range j).filter fun k => nearB ts L u (nm pl k)).length ≤ 12 := by
            have := List.length_filter_le (fun k => nearB ts L u (nm pl k)) (List.range j)
            rw [List.length_range] at this
            omega
          by_cases c : dist ts u y ≤ L
          · rw [decide_eq_true c]
            refine iteT ⟨_, rfl, _, _, rfl, rfl, _, rfl, _, _, rfl, rfl, n - 1 - j, rfl, congrArg V.int (by omega), by omega, _, by rw [upd_ne GT]; exact hG, by unfold nI; rw [List.length_map, List.length_map]; exact sz_lt (by omega), same_put S5 nG, ?_⟩
            rw [upd_same, snoc (decide_eq_true c), List.map_append]
            unfold nI
            rw [List.map_append]
            rfl
          · rw [decide_eq_false c]
            refine iteF ⟨S5, ?_⟩
            rw [upd_ne GT, none' (decide_eq_false c)]
            exact hG
        · obtain ⟨S4, hG⟩ := hP
          rw [List.length_map, List.length_map, en, nI_map] at hG
          refine ⟨G, _, rfl, SqL.of hG, ?_⟩
          rw [iL_sum, wN_sum n (Nat.le_refl n), Nat.sub_self, Nat.pow_zero, Nat.mul_one]
          have hN4 := S4 _ _ hN3
          refine ⟨N, _, _, rfl, rfl, hN4, by unfold nI; rw [List.length_map, List.length_map, List.length_take]; exact sz_lt (by omega), _, _, _, _, rfl, same_put (S3.trans S4) nN, ?_⟩
          rw [upd_same, et]
          unfold nI mkN
          rw [List.map_append, List.map_append, en]
          rfl
      · obtain ⟨x4, x5, x6, x11, rfl, S2, hN⟩ := hP
        rw [List.length_map, List.length_map, List.take_length] at hN
        exact ⟨_, _, _, _, rfl, S2, hN⟩
    · obtain ⟨x4, x5, x6, x11, rfl, S2, hN⟩ := hM
      have p12 : 2 ^ n ≤ 4096 := Nat.le_trans (Nat.pow_le_pow_right (by decide) l12) (by decide)
      have p1 : 1 ≤ 2 ^ n := Nat.one_le_two_pow
      refine ⟨fun σ' H' => ∃ (x4 x5 x6 x8 x9 x10 x11 : Option V) (bv : V) (g : Nat → Bool), σ' = [some (.ref t), some (.int L), some (.int (n : Nat)), some (.ref N), x4, x5, x6, some bv, x8, x9, x10, x11] ∧ Same H H' ∧ FewIs pl ts L g ∧ BestAt H' bv (some (pk g 0 n)), ?_, fun σ' H' hM => ?_⟩
      · refine ⟨_, rfl, n, rfl, rfl, by omega, ?_⟩
        refine ⟨_, _, rfl, ⟨by omega, by omega, by omega, by omega⟩, ?_⟩
        have er : (((2 ^ n : Nat) : Int) - 1).toNat = 2 ^ n - 1 := by omega
        rw [er]
        have st0 : SrAt pl ts L (1 + 0) none := ⟨fun _ o o1 o2 => absurd o2 (by omega), fun B e => by cases e⟩
        refine for_range (lo := 1) (n := 2 ^ n - 1) (fun k σ' H' => ∃ (x4 x5 x6 x8 x9 x10 x11 : Option V) (bv : V) (best : Option (List Nat)), σ' = [some (.ref t), some (.int L), some (.int (n : Nat)), some (.ref N), x4, x5, x6, some bv, x8, x9, x10, x11] ∧ Same H H' ∧ H' N = some (.lst (nI (pl.map (mkN pl ts L)))) ∧ SrAt pl ts L (1 + k) best ∧ BestAt H' bv best)
          ⟨_, _, _, _, _, _, _, _, none, rfl, S2, hN, st0, rfl⟩ (fun k σ' H' hk hP => ?_) (fun σ' H' hP => ?_)
        · obtain ⟨x4, x5, x6, x8, x9, x10, x11, bv, best, rfl, S3, hN3, sr, hb3⟩ := hP
          have no : ((1 : Int) + (k : Nat)) = ((1 + k : Nat) : Int) := by omega
          rw [no]
          generalize eo : 1 + k = o at *
          have o1 : 1 ≤ o := by omega
          refine ⟨_, rfl, _, rfl, by omega, by omega, ?_⟩
          rw [Int.toNat_natCast]
          intro G nG
          have nGN : N ≠ G := ne_of_none hN3 nG
          refine lc_range (lo := 0) (n := n) (fun j H'' => Same H' H'' ∧ H'' G = some (.lst (nI (pk (gO n o) 0 j)))) ⟨same_new (Same.refl H') nG, upd_same⟩ (fun j H'' hj hP => ?_) (fun H'' hP => ?_)
          · obtain ⟨S4, hG⟩ := hP
            have pl3 : (pk (gO n o) 0 j).length ≤ j := by
              have := List.length_filter_le (gO n o) (List.range' 0 j)
              rw [List.length_range'] at this
              exact this
            rw [Int.zero_add]
            refine ⟨rfl, _, rfl, _, rfl, _, _, rfl, rfl, _, rfl, _, _, rfl, rfl, o, n - 1 - j, rfl, congrArg V.int (by omega), _, rfl, rfl, rfl, _, rfl, ?_⟩
            have gi := gO_is n o j
            rw [pk_succ]
            by_cases c : o / 2 ^ (n - 1 - j) % 2 = 1
            · rw [decide_eq_true (show V.int ((o / 2 ^ (n - 1 - j) % 2 : Nat) : Int) = .int 1 by rw [c]; rfl)]
              rw [decide_eq_true c] at gi
              refine iteT ⟨_, rfl, _, hG, by rw [nI_len]; exact sz_lt (by omega), same_put S4 nG, ?_⟩
              rw [upd_same, if_pos gi]
              unfold nI
              rw [List.map_append]
              rfl
            · rw [decide_eq_false (fun z => c (by have := V.int.inj z; omega))]
              rw [decide_eq_false c] at gi
              refine iteF ⟨S4, ?_⟩
              rw [if_neg (by rw [gi]; decide), List.append_nil]
              exact hG
          · obtain ⟨S4, hG⟩ := hP
            generalize ePk : pk (gO n o) 0 n = Pk at *
            have kn : 1 + (k + 1) = o + 1 := by omega
            have hN4 := S4 _ _ hN3
            have S5 := S3.trans S4
            have hb4 : BestAt H'' bv best := by
              cases best with
              | none => exact hb3
              | some B =>
                obtain ⟨b, e1, e2⟩ := hb3
                exact ⟨b, e1, S4 _ _ e2⟩
            have eN : decide (bv = V.non) = best.isNone := by
              cases best with
              | none => rw [show bv = .non from hb3]; rfl
              | some B =>
                obtain ⟨b, e1, e2⟩ := hb3
                rw [e1]
                rfl
            have lt : ∀ m ∈ Pk, m < n := fun m hm => by
              rw [← ePk] at hm
              have := (pk_mem.mp hm).1
              omega
            rw [kn]
            dsimp only [gName, tIfS]
            refine or_rd best.isNone (decide (Pk.length ≤ (best.getD []).length)) (fun R r => ⟨_, rfl, rfl, _, rfl, by rw [eN]; exact r⟩) (fun h R r => ?_) ?_
            · cases best with
              | none => cases h
              | some B =>
                obtain ⟨b, rfl, hb⟩ := hb4
                refine ⟨_, rfl, G, _, rfl, .inl (SqL.of hG), _, rfl, b, _, rfl, .inl (SqL.of hb), _, _, rfl, rfl, _, rfl, ?_⟩
                rw [nI_len, nI_len, show decide (((Pk.length : Nat) : Int) ≤ ((B.length : Nat) : Int)) = decide (Pk.length ≤ B.length) from decide_eq_decide.mpr (by omega)]
                exact r
            · by_cases c1 : (best.isNone || decide (Pk.length ≤ (best.getD []).length)) = true
              · rw [c1]
                refine iteT ?_
                refine ⟨fun σ' H3 => ∃ x6 : Option V, σ' = [some (.ref t), some (.int L), some (.int (n : Nat)), some (.ref N), x4, x5, x6, some bv, some (.int (o : Nat)), some (.ref G), some (.int (seenN pl ts L Pk : Nat)), x11] ∧ H3 = H'', ?_, fun σ' H3 hM => ?_⟩
                · refine ⟨_, rfl, G, rfl, ⟨_, SqL.of hG⟩, ?_⟩
                  refine for_list (K := K) (a := G) (xs := nI Pk) (fun j σ' H3 => ∃ x6 : Option V, σ' = [some (.ref t), some (.int L), some (.int (n : Nat)), some (.ref N), x4, x5, x6, some bv, some (.int (o : Nat)), some (.ref G), some (.int (seenN pl ts L (Pk.take j) : Nat)), x11] ∧ H3 = H'') ⟨_, rfl, rfl⟩ (fun j σ' H3 _ hP => ?_) (fun j x σ' H3 hj hP => ?_) (fun σ' H3 hP => ?_)
                  · rw [hP.choose_spec.2]
                    exact SqL.of hG
                  · obtain ⟨x6', rfl, rfl⟩ := hP
                    obtain ⟨m, em, rfl, et⟩ := nI_at hj
                    have mn := lt m (List.mem_of_getElem? em)
                    have at' : (nI (pl.map (mkN pl ts L)))[m]? = some (.int ((mkN pl ts L (nm pl m) : Nat) : Int)) := by
                      unfold nI
                      rw [List.getElem?_map, List.getElem?_map, (nm_mem (by omega)).2]
                      rfl
                    have es : seenN pl ts L (Pk.take (j + 1)) = seenN pl ts L (Pk.take j) ||| mkN pl ts L (nm pl m) := by
                      rw [et]
                      unfold seenN
                      rw [List.foldl_append]
                      rfl
                    refine ⟨_, rfl, _, rfl, _, rfl, N, _, m, _, rfl, rfl, SqL.of hN4, atI_nat (j := m) at', _, _, rfl, rfl, ?_⟩
                    rw [es]
                    exact ⟨_, rfl, rfl⟩
                  · obtain ⟨x6', rfl, rfl⟩ := hP
                    rw [nI_len, List.take_length]
                    exact ⟨_, rfl, rfl⟩
                · obtain ⟨x6', rfl, rfl⟩ := hM
                  unfold tIfS
                  have hG2 := hG
                  rw [nI_map] at hG2
                  have full : seenN pl ts L Pk = 2 ^ n - 1 ↔ Cv pl ts L (gO n o) := by
                    rw [← ePk, ← en]
                    exact seen_full
                  have eS : decide (V.int (((seenN pl ts L Pk : Nat)) : Int) = V.int (((2 ^ n : Nat) : Int) - 1)) = decide (seenN pl ts L Pk = 2 ^ n - 1) := decide_eq_decide.mpr ⟨fun z => by have := V.int.inj z; omega, fun z => congrArg V.int (by omega)⟩
                  refine and_rd (decide (seenN pl ts L Pk = 2 ^ n - 1)) (best.isNone || (decide (Pk.length < (best.getD []).length) || decide (Pk < best.getD []))) (fun R r => ⟨_, rfl, _, rfl, n, rfl, rfl, by omega, _, _, rfl, rfl, rfl, _, rfl, by rw [eS]; exact r⟩) (fun _ R r => ?_) ?_
                  · refine or_rd best.isNone (decide (Pk.length < (best.getD []).length) || decide (Pk < best.getD [])) (fun R r => ⟨_, rfl, rfl, _, rfl, by rw [eN]; exact r⟩) (fun h R r => ?_) r
                    cases best with
                    | none => cases h
                    | some B =>
                      obtain ⟨b, rfl, hb⟩ := hb4
                      refine or_rd (decide (Pk.length < B.length)) (decide (Pk < B)) (fun R r => ?_) (fun _ R r => ?_) r
                      · refine ⟨_, rfl, G, _, rfl, .inl (SqL.of hG), _, rfl, b, _, rfl, .inl (SqL.of hb), _, _, rfl, rfl, _, rfl, ?_⟩
                        rw [nI_len, nI_len, show decide (((Pk.length : Nat) : Int) < ((B.length : Nat) : Int)) = decide (Pk.length < B.length) from decide_eq_decide.mpr (by omega)]
                        exact r
                      · have hb2 := hb
                        rw [nI_map] at hb2
                        refine ⟨_, rfl, _, rfl, G, b, iL Pk, iL B, rfl, rfl, SqL.of hG2, SqL.of hb2, _, rfl, ?_⟩
                        rw [decide_eq_decide.mpr (iL_lt Pk B)]
                        exact r
                  · by_cases c2 : (decide (seenN pl ts L Pk = 2 ^ n - 1) && (best.isNone || (decide (Pk.length < (best.getD []).length) || decide (Pk < best.getD [])))) = true
                    · rw [c2]
                      rw [Bool.and_eq_true, decide_eq_true_eq] at c2
                      have cv := full.mp c2.1
                      have nw := sr.new o1 (by rw [en]; exact cv) fun B e => by
                        rw [en, ePk]
                        rw [e] at c1 c2
                        have c3 : (decide (Pk.length < B.length) || decide (Pk < B)) = true := c2.2
                        have c4 : decide (Pk.length ≤ B.length) = true := c1
                        rw [Bool.or_eq_true, decide_eq_true_eq, decide_eq_true_eq] at c3
                        exact c3.elim .inl fun z => .inr ⟨of_decide_eq_true c4, z⟩
                      rw [en, ePk] at nw
                      exact iteT ⟨_, rfl, _, _, _, _, _, _, _, _, some Pk, rfl, S5, hN4, nw, G, rfl, hG⟩
                    · rw [Bool.eq_false_iff.mpr c2]
                      refine iteF ⟨_, _, _, _, _, _, _, bv, best, rfl, S5, hN4, sr.keep fun cv => ?_, hb4⟩
                      rw [en] at cv
                      rw [Bool.and_eq_true, decide_eq_true_eq] at c2
                      cases best with
                      | none => exact absurd ⟨full.mpr cv, rfl⟩ c2
                      | some B =>
                        refine ⟨B, rfl, fun bt => c2 ⟨full.mpr cv, ?_⟩⟩
                        rw [en, ePk] at bt
                        show (false || (decide (Pk.length < B.length) || decide (Pk < B))) = true
                        rw [Bool.false_or, Bool.or_eq_true, decide_eq_true_eq, decide_eq_true_eq]
                        exact bt.elim .inl fun z => .inr z.2
              · rw [Bool.eq_false_iff.mpr c1]
                refine iteF ⟨_, _, _, _, _, _, _, bv, best, rfl, S5, hN4, sr.keep fun cv => ?_, hb4⟩
                cases best with
                | none => exact absurd rfl c1
                | some B =>
                  refine ⟨B, rfl, fun bt => c1 ?_⟩
                  rw [en, ePk] at bt
                  show (false || decide (Pk.length ≤ B.length)) = true
                  rw [Bool.false_or, decide_eq_true_eq]
                  rcases bt with z | z
                  · omega
                  · exact z.1
        · obtain ⟨x4, x5, x6, x8, x9, x10, x11, bv, best, rfl, S3, hN3, sr, hb3⟩ := hP
          rw [show 1 + (2 ^ n - 1) = 2 ^ n by omega, ← en] at sr
          obtain ⟨g, rfl, fw⟩ := sr.done hL fine.tree
          rw [en] at hb3
          exact ⟨_, _, _, _, _, _, _, bv, g, rfl, S3, fw, hb3⟩
      · obtain ⟨x4, x5, x6, x8, x9, x10, x11, bv, g, rfl, S3, fw, b, rfl, hb3⟩ := hM
        refine ⟨_, rfl, b, rfl, ⟨_, SqL.of hb3⟩, fun G nG => ?_⟩
        have bG : b ≠ G := ne_of_none hb3 nG
        refine lc_list (K := K) (a := b) (xs := nI (pk g 0 n)) (fun j H'' => Same H' H'' ∧ H'' G = some (.lst (((nms pl ((pk g 0 n).take j)).map S).map V.str))) ⟨same_new (Same.refl H') nG, upd_same⟩ (fun j H'' _ hP => SqL.of (hP.1 _ _ hb3)) (fun j x H'' hj hP => ?_) (fun H'' hP => ?_)
        · obtain ⟨S4, hG⟩ := hP
          obtain ⟨m, em, rfl, et⟩ := nI_at hj
          have mn : m < pl.length := by
            have := (pk_mem.mp (List.mem_of_getElem? em)).1
            omega
          have at' : ((pl.map S).map V.str)[m]? = some (.str (S (nm pl m))) := by
            rw [List.getElem?_map, List.getElem?_map, (nm_mem mn).2]
            rfl
          have pl3 : ((pk g 0 n).take j).length ≤ 12 := by
            have := List.length_filter_le g (List.range' 0 n)
            rw [List.length_range'] at this
            rw [List.length_take]
            have : (pk g 0 n).length ≤ n := this
            omega
          refine ⟨rfl, _, rfl, t, _, 0, .ref a, rfl, rfl, SqT.of (S4 _ _ (S3 _ _ ht)), atI_nat (j := 0) rfl, _, rfl, a, _, m, _, rfl, rfl, (ha.same (S3.trans S4)).sq, atI_nat (j := m) at', _, hG, ?_, same_put S4 nG, ?_⟩
          · unfold nms
            rw [List.length_map, List.length_map, List.length_map]
            exact sz_lt (by omega)
          · rw [upd_same, et]
            unfold nms
            rw [List.map_append, List.map_append, List.map_append]
            rfl
        · obtain ⟨S4, hG⟩ := hP
          rw [nI_len, List.take_length] at hG
          exact .inl ⟨G, _, rfl, SqL.of hG, fun r nr => q _ r g (same_new (S3.trans S4) nr) ((S3.trans S4).free nr) fw upd_same⟩
end
end Far

namespace Far
open PySem PySem.Spec PyProof.Rows L2
open C8 (pss_cut tCut)
open SX (S)
theorem fine_a : Fine [[97]] [] := ⟨⟨[[97]], [], .one _, .refl _, .refl _⟩, fun l hl => by rw [List.mem_singleton.mp hl]; exact ⟨by decide, by decide, by decide⟩, by decide⟩
theorem shaped_names {ls : List Nm} (h : ∀ l ∈ ls, NameOk l) : SeqAt.shaped (.tuple (ls.map strD)) = true := by
  have a : PyData.canLayAll0 (ls.map strD) = true := lay_strs h
  have b : PyData.depthAll (ls.map strD) = 0 := dep_strs ls
  show (PyData.canLayAll0 (ls.map strD) && decide (PyData.depthAll (ls.map strD) + 1 ≤ 64)) = true
  rw [a, b]
  rfl
theorem plain_names {ls : List Nm} (h : ls.length ≤ 1000) : Plain 4 (.tuple (ls.map strD)) := .tup (fun d hd => by obtain ⟨x, _, rfl⟩ := List.mem_map.mp hd; exact .str _ _) (by rw [List.length_map]; exact h)
theorem names_dt0 {H : Hp} {q : Addr} {ls : List Nm} (h : H q = some (.tup ((ls.map S).map V.str))) : Dt H (.ref q) (.tuple (ls.map strD)) := .tup h (dt_strs H ls)
theorem dkm_vals (fs : List Nm) (f : Nm → V) : (dkm fs f).map (·.2) = fs.map f := by unfold dkm; rw [List.map_map]; rfl
theorem TupAt.nd {H : Hp} {a d : Addr} {xs : List V} {n : Nat} (h : TupAt H a xs) (D : SeedAt H d n) : a ≠ d := by
  obtain ⟨ys, e⟩ := D.lst
  rcases h with h | ⟨o, _, h⟩ <;> exact ne_of h e (by intro z; cases z)
theorem TupAt.mv {H H' : Hp} {a d : Addr} {xs : List V} (h : TupAt H a xs) (s : SmX d H H') (n : a ≠ d) : TupAt H' a xs := h.elim (fun h => .inl (s a _ n h)) fun ⟨o, e, h⟩ => .inr ⟨o, e, s a _ n h⟩
theorem SeedAt.same {H H' : Hp} {d : Addr} {n : Nat} (h : SeedAt H d n) (s : Same H H') : SeedAt H' d n := by
  obtain ⟨a, f, k, h1, h2⟩ := h
  exact ⟨a, f, k, s _ _ h1, h2⟩
abbrev s_law : Stmt := topS 30
abbrev N_law : List Str := ["script", "deck", "turn", "tree", "lengths", "far", "length", "due", "alone"]
theorem sc_law : FnScope N_law ["script"] (defScope s_law) := ⟨rfl, rfl, rfl, by decide +kernel, rfl, by decide +kernel, by decide +kernel⟩
section
variable {P : Program} {w : World} {K : PySem.W.Frag} {mg : Str → Option Value} {base : Heap}
structure TxtLL (mg : Str → Option Value) : Prop where
  len : mg "len" = none
  range : mg "range" = none
  list : mg "list" = none
  max : mg "max" = none
def spLaw (K : PySem.W.Frag) : Sp := fun vs H Q _ => ∃ (a : Addr) (ns : List Int), vs = [.ref a] ∧ SqL K H a (ns.map V.int) ∧ ns.length ≤ 63 ∧ (∀ z ∈ ns, Builtin.Int.intBits z ≤ 1048576) ∧ ∀ H', Q (.bl true) H'
theorem ok_law {f : Addr} {fd : FuncData} (F : Fun K "law" "law" s_law f fd) (T : TxtLL mg) (C_law_deck : Cal P w K mg base 1 "_law_deck" (spDeck K)) (C_law_draw : Cal P w K mg base 1 "_law_draw" spDraw) (C_law_tree : Cal P w K mg base 3 "_law_tree" spTree) (C_law_same : Cal P w K mg base 5 "_law_same" (spSame 4))
    (Cleaves_of : Cal P w K mg base 1 "leaves_of" spLeaves) (C_law_leaves : Cal P w K mg base 1 "_law_leaves" spLeaves) (Cwithout_leaves : Cal P w K mg base 2 "without_leaves" spWithout) (C_law_without : Cal P w K mg base 2 "_law_without" spWithout) (C_law_peeled_right : Cal P w K mg base 7 "_law_peeled_right" spPR) (Cpeeled : Cal P w K mg base 3 "peeled" spPeeled)
    (C_law_lengths : Cal P w K mg base 2 "_law_lengths" spLay) (C_law_fewest : Cal P w K mg base 3 "_law_fewest" spLFew) (Cfewest_within : Cal P w K mg base 5 "fewest_within" spFew) : FnOk P w K mg base CX0 8 f fd ["script"] (spLaw K) := by
  refine F.ok sc_law (fun vs H Q E h => ?_) (fun cdv A outer s H vs Q E hr h => ?_)
  · obtain ⟨a, ns, rfl, _⟩ := h
    rfl
  · obtain ⟨a0, ns, rfl, hS, hl, hb, q⟩ := h
    have e8 : (10 : Int) ^ (8 : Int).toNat = 100000000 := by decide
    refine ⟨_, (pss_cons (ps_set (i := 1) sc_law.nd rfl (.inl rfl) (pe_c C_law_deck hr (by decide) rfl (pa_cons (pv 0) pa_nil)))
      (pss_cut (ps_for PassesOwn.never rfl (pi_range1 (by rfl) T.range (pa_cons pe_int pa_nil)) (pg_name (i := 2) sc_law.nd rfl (.inl rfl))
        (pss_cons (ps_set (i := 3) sc_law.nd rfl (.inl rfl) (pe_c C_law_tree hr (by decide) rfl (pa_cons (pv 1) (pa_cons (pe_ix ix_list (pe_lst (pa_cons pe_int (pa_cons pe_int (pa_cons pe_int (pa_cons pe_int (pa_cons pe_int (pa_cons pe_int pa_nil))))))) (pv 2) (fun _ _ => rfl)) (pa_cons (pe_lst pa_nil) pa_nil)))))
        (pss_cut (ps_if (PW.pt (pw_or (pt_not (pt_val (pe_c C_law_same hr (by decide) rfl (pa_cons (pe_c Cleaves_of hr (by decide) rfl (pa_cons (pv 3) pa_nil)) (pa_cons (pe_c C_law_leaves hr (by decide) rfl (pa_cons (pv 3) pa_nil)) pa_nil))))) (pw_or1 (pt_cmpR (op_neD (hd_of hr (by decide))) (pe_c Cleaves_of hr (by decide) rfl (pa_cons (pv 3) pa_nil)) (pe_c C_law_leaves hr (by decide) rfl (pa_cons (pv 3) pa_nil)) (nomark _)))))
          (pss_one (ps_ret pe_bl))
          pss_nil)
        (pss_cut (ps_if (PW.pt (pw_or (pt_not (pt_val (pe_c C_law_same hr (by decide) rfl (pa_cons (pe_c Cwithout_leaves hr (by decide) rfl (pa_cons (pv 3) pa_nil)) (pa_cons (pe_c C_law_without hr (by decide) rfl (pa_cons (pv 3) pa_nil)) pa_nil))))) (pw_or1 (pt_cmpR (op_neD (hd_of hr (by decide))) (pe_c Cwithout_leaves hr (by decide) rfl (pa_cons (pv 3) pa_nil)) (pe_c C_law_without hr (by decide) rfl (pa_cons (pv 3) pa_nil)) (nomark _)))))
          (pss_one (ps_ret pe_bl))
          pss_nil)
        (pss_cut (ps_if (pt_not (pt_val (pe_c C_law_peeled_right hr (by decide) rfl (pa_cons (pv 3) pa_nil))))
          (pss_one (ps_ret pe_bl))
          pss_nil)
        (pss_one (ps_if (pt_cmpR op_gt (pv 2) pe_int (nomark _))
          (pss_cons (ps_set (i := 4) sc_law.nd rfl (.inl rfl) (pe_listVals rfl (pe_c C_law_lengths hr (by decide) rfl (pa_cons (pv 3) (pa_cons (pe_ix ix_tup (pe_ix ix_tup (pv 3) pe_int (fun _ _ => rfl)) (pe_c C_law_draw hr (by decide) rfl (pa_cons (pv 1) (pa_cons (pe_callB call_len_seq (by rfl) T.len bt_len (pa_cons (pe_ix ix_tup (pv 3) pe_int (fun _ _ => rfl)) pa_nil)) pa_nil))) (fun _ _ => rfl)) pa_nil))) (by rfl) T.list bt_list))
          (pss_cons (ps_set (i := 5) sc_law.nd rfl (.inl rfl) (pe_ix ix_list (pv 4) (pe_c C_law_draw hr (by decide) rfl (pa_cons (pv 1) (pa_cons (pe_callB call_len_seq (by rfl) T.len bt_len (pa_cons (pv 4) pa_nil)) pa_nil))) (fun _ _ => rfl)))
          (pss_one (ps_for PassesOwn.never rfl (pi_list (pe_lst (pa_cons (pv 5) (pa_cons (pe_callB (call_max2 rfl) (by rfl) T.max bt_max (pa_cons pe_int (pa_cons (pe_op op_sub (pv 5) pe_int) pa_nil))) (pa_cons (pe_ix ix_list (pe_lst (pa_cons pe_int (pa_cons (pe_op op_add pe_int (pe_c C_law_draw hr (by decide) rfl (pa_cons (pv 1) (pa_cons pe_int pa_nil)))) (pa_cons (pe_op op_pow pe_int pe_int) pa_nil)))) (pe_c C_law_draw hr (by decide) rfl (pa_cons (pv 1) (pa_cons pe_int pa_nil))) (fun _ _ => rfl)) pa_nil))))) (pg_name (i := 6) sc_law.nd rfl (.inl rfl))
            (pss_cons (ps_set (i := 7) sc_law.nd rfl (.inl rfl) (pe_c C_law_fewest hr (by decide) rfl (pa_cons (pv 3) (pa_cons (pv 6) pa_nil))))
            (pss_one (ps_if (PW.pt (pw_or (pt_not (pt_val (pe_c C_law_same hr (by decide) rfl (pa_cons (pe_c Cfewest_within hr (by decide) rfl (pa_cons (pv 3) (pa_cons (pv 6) pa_nil))) (pa_cons (pv 7) pa_nil))))) (pw_or1 (pt_cmpR (op_neD (hd_of hr (by decide))) (pe_c Cfewest_within hr (by decide) rfl (pa_cons (pv 3) (pa_cons (pv 6) pa_nil))) (pv 7) (nomark _)))))
              (pss_one (ps_ret pe_bl))
              pss_nil)))))))
          pss_nil)))))))
      (pss_cons (ps_set (i := 8) sc_law.nd rfl (.inl rfl) (pe_tup (pa_cons (pe_tup (pa_cons pe_str pa_nil)) (pa_cons (pe_tup pa_nil) pa_nil))))
      (pss_one (ps_ret (pe_and (pe_cmpR (op_eqD (hd_of hr (by decide))) (pe_c Cleaves_of hr (by decide) rfl (pa_cons (pv 8) pa_nil)) (pe_tup pa_nil) (nomark _)) (pe_and (pe_cmpR (op_eqD (hd_of hr (by decide))) (pe_c Cwithout_leaves hr (by decide) rfl (pa_cons (pv 8) pa_nil)) (pv 8) (nomark _)) (pe_one (pe_cmpR (op_eqD (hd_of hr (by decide))) (pe_c Cpeeled hr (by decide) rfl (pa_cons (pv 8) pa_nil)) (pe_lst (pa_cons (pv 8) pa_nil)) (nomark _)))))))))), ?_⟩
    refine ⟨_, rfl, a0, ns, rfl, hS, hl, hb, fun H0 d S0 d0 D0 => ?_⟩
    refine ⟨fun σ' H' => ∃ (x1 x2 x3 x4 x5 x6 x7 x8 : Option V), σ' = [some (.ref a0), x1, x2, x3, x4, x5, x6, x7, x8], ?_, fun σ' H' hM => ?_⟩
    · refine ⟨6, rfl, by decide, by decide, for_range (lo := 0) (n := (6 : Int).toNat) (fun i σ' H' => (∃ x2 x3 x4 x5 x6 x7 x8, σ' = [some (.ref a0), some (.ref d), x2, x3, x4, x5, x6, x7, x8]) ∧ SeedAt H' d (2000 * i)) ⟨⟨_, _, _, _, _, _, _, rfl⟩, D0⟩ (fun i σ' H' hi hP => ?_) (fun σ' H' hP => ?_)⟩
      · obtain ⟨⟨x2, x3, x4, x5, x6, x7, x8, rfl⟩, D1⟩ := hP
        have hi : i < 6 := hi
        refine ⟨_, rfl, (by show 6 ≤ sizeLine; decide), fun p np => ?_⟩
        obtain ⟨v, hv, most, rfl, m1, m30, m12⟩ : ∃ v, atI [V.int 30, .int 30, .int 30, .int 12, .int 9, .int 6] (0 + (i : Int)) = some v ∧ ∃ m : Nat, v = .int m ∧ 1 ≤ m ∧ m ≤ 30 ∧ (2 < i → m ≤ 12) := by
          have : i = 0 ∨ i = 1 ∨ i = 2 ∨ i = 3 ∨ i = 4 ∨ i = 5 := by omega
          rcases this with e | e | e | e | e | e <;> subst e
          · exact ⟨.int 30, rfl, 30, rfl, by omega, by omega, by omega⟩
          · exact ⟨.int 30, rfl, 30, rfl, by omega, by omega, by omega⟩
          · exact ⟨.int 30, rfl, 30, rfl, by omega, by omega, by omega⟩
          · exact ⟨.int 12, rfl, 12, rfl, by omega, by omega, by omega⟩
          · exact ⟨.int 9, rfl, 9, rfl, by omega, by omega, by omega⟩
          · exact ⟨.int 6, rfl, 6, rfl, by omega, by omega, by omega⟩
        refine ⟨_, rfl, p, _, 0 + (i : Int), _, rfl, rfl, SqL.of upd_same, hv, Nat.zero_le _, fun p2 np2 => ?_⟩
        have Dp := (D1.new (o := .lst [.int 30, .int 30, .int 30, .int 12, .int 9, .int 6]) np)
        refine ⟨d, p2, _, most, [], rfl, Dp.new np2, by omega, m1, m30, Dp.nd np2, .inl upd_same, by decide, fun H2 t pl ts it ok un pll hd S2 D2 => ?_⟩
        have tl := it.len
        have fine : Fine pl ts := ⟨it, ok, by omega⟩
        have okT : ∀ e ∈ ts, NameOk e.1 ∧ NameOk e.2.1 := fun e he => fine.okT he
        have lok : ∀ l ∈ leavesOf pl ts, NameOk l := fun l hl => ok l (mem_leaves hl).1
        have lle : (leavesOf pl ts).length ≤ 1000 := Nat.le_trans (List.length_filter_le ..) (by omega)
        have wok := (wi_sub (pl, ts)).1
        have wtr : IsTree (wi (pl, ts)).1 (wi (pl, ts)).2 := IsTree.wi (T := (pl, ts)) it
        have wsh : SeqAt.shaped (treeP (wi (pl, ts))) = true := shaped_tree (fun l hl => ok l (wok l hl)) fun e he => by
          obtain ⟨e1, e2, _⟩ := wtr.ties e he
          exact ⟨ok _ (wok _ e1), ok _ (wok _ e2)⟩
        have wpl : Plain 4 (treeP (wi (pl, ts))) := by
          have h2 : (wi (pl, ts)).1.length ≤ pl.length := (wi_sub (pl, ts)).2.1
          have h3 := wtr.len
          exact plain_tree (by omega) (by omega)
        refine ⟨fun σ' H' => σ' = [some (.ref a0), some (.ref d), some (.int (0 + (i : Int))), some (.ref t), x4, x5, x6, x7, x8] ∧ Same H2 H', ?_, fun σ' H3 hM => ?_⟩
        · refine ⟨_, rfl, .ref t, pl, ts, rfl, hd, by omega, by omega, fun H3 q3 s3 n3 h3 => ?_⟩
          refine ⟨_, rfl, .ref t, pl, ts, rfl, Dt.keep (TK.of s3) hd, by omega, by omega, fun H4 q4 s4 n4 h4 => ?_⟩
          refine ⟨_, _, _, rfl, names_dt0 (s4 _ _ h3), names_dt0 h4, plain_names lle, fun H5 s5 => ⟨_, rfl, iteF ?_⟩⟩
          have s35 := (s3.trans s4).trans s5
          refine ⟨_, rfl, .ref t, pl, ts, rfl, Dt.keep (TK.of s35) hd, by omega, by omega, fun H6 q6 s6 n6 h6 => ?_⟩
          refine ⟨_, rfl, .ref t, pl, ts, rfl, Dt.keep (TK.of (s35.trans s6)) hd, by omega, by omega, fun H7 q7 s7 n7 h7 => ?_⟩
          refine ⟨_, _, Dt.dp (names_dt0 (s7 _ _ h6)), Dt.dp (names_dt0 h7), shaped_names lok, shaped_names lok, ?_⟩
          rw [eqv_same (shaped_names lok)]
          exact ⟨_, rfl, iteF ⟨rfl, (s35.trans s6).trans s7⟩⟩
        obtain ⟨rfl, S3⟩ := hM
        refine ⟨fun σ' H' => σ' = [some (.ref a0), some (.ref d), some (.int (0 + (i : Int))), some (.ref t), x4, x5, x6, x7, x8] ∧ Same H2 H', ?_, fun σ' H4 hM => ?_⟩
        · refine ⟨_, rfl, .ref t, pl, ts, rfl, Dt.keep (TK.of S3) hd, it, by omega, fun H4 r4 s4 h4 => ?_⟩
          refine ⟨_, rfl, .ref t, pl, ts, rfl, Dt.keep (TK.of (S3.trans s4)) hd, it, by omega, fun H5 r5 s5 h5 => ?_⟩
          refine ⟨_, _, _, rfl, Dt.keep (TK.of s5) h4, h5, wpl, fun H6 s6 => ⟨_, rfl, iteF ?_⟩⟩
          have s46 := ((S3.trans s4).trans s5).trans s6
          refine ⟨_, rfl, .ref t, pl, ts, rfl, Dt.keep (TK.of s46) hd, it, by omega, fun H7 r7 s7 h7 => ?_⟩
          refine ⟨_, rfl, .ref t, pl, ts, rfl, Dt.keep (TK.of (s46.trans s7)) hd, it, by omega, fun H8 r8 s8 h8 => ?_⟩
          refine ⟨_, _, Dt.dp (Dt.keep (TK.of s8) h7), Dt.dp h8, wsh, wsh, ?_⟩
          rw [eqv_same wsh]
          exact ⟨_, rfl, iteF ⟨rfl, (s46.trans s7).trans s8⟩⟩
        obtain ⟨rfl, S4⟩ := hM
        refine ⟨fun σ' H' => σ' = [some (.ref a0), some (.ref d), some (.int (0 + (i : Int))), some (.ref t), x4, x5, x6, x7, x8] ∧ Same H2 H', ?_, fun σ' H5 hM => ?_⟩
        · exact ⟨_, rfl, .ref t, pl, ts, rfl, Dt.keep (TK.of S4) hd, fine, fun H6 s6 => ⟨_, rfl, iteF ⟨rfl, S4.trans s6⟩⟩⟩
        obtain ⟨rfl, S5⟩ := hM
        have D5 := D2.same S5
        have hd5 := Dt.keep (TK.of S5) hd
        have td : t ≠ d := by
          obtain ⟨t', a, b, vs, et, ht, _⟩ := dt_tree hd5
          cases et
          exact TupAt.nd (.inl ht) D5
        refine ⟨_, rfl, _, _, rfl, rfl, _, rfl, ?_⟩
        by_cases c : 2 < i
        · rw [decide_eq_true (show (2 : Int) < 0 + (i : Int) by omega)]
          have p12 : pl.length ≤ 12 := Nat.le_trans pll (m12 c)
          have np : 0 < pl.length := by omega
          obtain ⟨t', a, b, vs, et, ht, ha, hbb, hA⟩ := dt_tree hd5
          cases et
          refine iteT ?_
          refine ⟨_, rfl, _, rfl, t, _, 0, .ref a, rfl, rfl, SqT.of ht, atI_nat (j := 0) rfl, _, rfl, _, rfl, t, _, 0, .ref a, rfl, rfl, SqT.of ht, atI_nat (j := 0) rfl, a, _, rfl, .inr ha.sq, ?_⟩
          rw [List.length_map, List.length_map]
          have ad := ha.nd D5
          refine ⟨d, _, _, rfl, D5, by omega, by omega, by omega, fun H6 r r0 r1 S6 D6 => ?_⟩
          obtain ⟨v6, hv6, mv6⟩ := atI_in (xs := (pl.map S).map V.str) r0 (by simpa using r1)
          obtain ⟨u, mu, rfl⟩ : ∃ u ∈ pl, v6 = .str (S u) := by
            obtain ⟨y, hy, rfl⟩ := List.mem_map.mp mv6
            obtain ⟨u, hu, rfl⟩ := List.mem_map.mp hy
            exact ⟨u, hu, rfl⟩
          have hd6 := Dt.keep (D5.tk S6) hd5
          refine ⟨a, _, r, _, rfl, rfl, (ha.mv S6 ad).sq, hv6, .ref t, pl, ts, u, rfl, hd6, fine, mu, fun H7 D fs s7 nD hD nf inf => ?_⟩
          refine ⟨D, _, rfl, hD, fun p7 np7 => ?_⟩
          rw [dkm_vals]
          have D7 := (D6.same s7).new (o := .lst (fs.map fun x => V.int (dist ts u x))) np7
          have p7d := (D6.same s7).nd np7
          have fl : 0 < fs.length := List.length_pos_of_mem ((inf u).mpr mu)
          have fl2 : fs.length ≤ pl.length := List.Nodup.length_le_of_subset nf fun x hx => (inf x).mp hx
          have hp7 : (upd H7 p7 (.lst (fs.map fun x => V.int (dist ts u x)))) p7 = some (.lst (fs.map fun x => V.int (dist ts u x))) := upd_same
          have hd7 := Dt.keep ((TK.of s7).trans (TK.new (o := .lst (fs.map fun x => V.int (dist ts u x))) np7)) hd6
          generalize upd H7 p7 (.lst (fs.map fun x => V.int (dist ts u x))) = H7' at *
          refine ⟨_, rfl, _, rfl, _, rfl, p7, _, rfl, .inl (SqL.of hp7), ?_⟩
          rw [List.length_map]
          refine ⟨d, _, _, rfl, D7, by omega, by omega, by omega, fun H8 r8 r80 r81 S8 D8 => ?_⟩
          have hp8 := S8 p7 _ p7d hp7
          obtain ⟨v8, hv8, mv8⟩ := atI_in (xs := fs.map fun x => V.int (dist ts u x)) r80 (by simpa using r81)
          obtain ⟨y, hy, rfl⟩ := List.mem_map.mp mv8
          have far0 := dist_nn it mu ((inf y).mp hy)
          generalize dist ts u y = far at far0 hv8
          have hd8 := Dt.keep (D7.tk S8) hd7
          refine ⟨p7, _, r8, _, rfl, rfl, SqL.of hp8, hv8, ?_⟩
          refine ⟨_, rfl, _, rfl, _, _, rfl, rfl, _, _, rfl, ?_⟩
          refine ⟨_, rfl, d, _, 9, rfl, D8, by omega, by decide, by decide, fun H9 r9 r90 r91 S9 D9 => ⟨_, _, rfl, rfl, _, _, rfl, rfl, ⟨by decide, by decide, by decide⟩, (by show 3 ≤ sizeLine; decide), fun p9 np9 => ?_⟩⟩
          have D9' := D9.new (o := .lst [.int 0, .int (1 + r9), .int (10 ^ (8 : Int).toNat)]) np9
          refine ⟨_, rfl, d, _, 3, rfl, D9', by omega, by decide, by decide, fun H10 r10 r100 r101 S10 D10 => ?_⟩
          have hp10 := S10 p9 _ (D9.nd np9) upd_same
          obtain ⟨v10, hv10, mv10⟩ := atI_in (xs := [V.int 0, .int (1 + r9), .int (10 ^ (8 : Int).toNat)]) r100 (by simpa using r101)
          obtain ⟨k3, rfl, k30⟩ : ∃ k : Int, v10 = .int k ∧ 0 ≤ k := by
            simp only [List.mem_cons, List.not_mem_nil, or_false] at mv10
            rcases mv10 with e | e | e
            · exact ⟨_, e, by omega⟩
            · exact ⟨_, e, by omega⟩
            · exact ⟨_, e, by rw [e8]; omega⟩
          refine ⟨p9, _, r10, _, rfl, rfl, SqL.of hp10, hv10, (by show 3 ≤ sizeLine; decide), fun p11 np11 => ?_⟩
          have hd10 := Dt.keep ((((D8.tk S9).trans (TK.new np9)).trans (D9'.tk S10)).trans (TK.new (o := .lst [.int far, .int (if far - 1 > 0 then far - 1 else 0), .int k3]) np11)) hd8
          have D11 := D10.new (o := .lst [.int far, .int (if far - 1 > 0 then far - 1 else 0), .int k3]) np11
          have hp11 : (upd H10 p11 (.lst [V.int far, .int (if far - 1 > 0 then far - 1 else 0), .int k3])) p11 = some (.lst [.int far, .int (if far - 1 > 0 then far - 1 else 0), .int k3]) := upd_same
          refine ⟨p11, rfl, ⟨_, SqL.of hp11⟩, ?_⟩
          generalize upd H10 p11 (.lst [V.int far, .int (if far - 1 > 0 then far - 1 else 0), .int k3]) = H11 at *
          refine for_list (K := K) (a := p11) (xs := [V.int far, .int (if far - 1 > 0 then far - 1 else 0), .int k3]) (fun j σ' H' => ∃ (x6 x7 : Option V), σ' = [some (.ref a0), some (.ref d), some (.int (0 + (i : Int))), some (.ref t), some (.ref p7), some (.int far), x6, x7, x8] ∧ Same H11 H') ⟨_, _, rfl, Same.refl _⟩ (fun j σ' H' _ hP => ?_) (fun j x σ' H' hj hP => ?_) (fun σ' H' hP => ?_)
          · obtain ⟨_, _, _, h1⟩ := hP
            exact SqL.of (h1 _ _ hp11)
          · obtain ⟨x6', x7', rfl, S12⟩ := hP
            obtain ⟨L, rfl, hL⟩ : ∃ L : Int, x = .int L ∧ 0 ≤ L := by
              have mx := List.mem_of_getElem? hj
              simp only [List.mem_cons, List.not_mem_nil, or_false] at mx
              rcases mx with e | e | e
              · exact ⟨_, e, far0⟩
              · refine ⟨_, e, ?_⟩
                by_cases z : far - 1 > 0
                · rw [if_pos z]; omega
                · rw [if_neg z]; omega
              · exact ⟨_, e, k30⟩
            have hd12 := Dt.keep (TK.of S12) hd10
            refine ⟨_, rfl, _, rfl, .ref t, pl, ts, L, rfl, hd12, fine, hL, p12, fun H13 q13 g s13 n13 fw h13 => ?_⟩
            have nok : ∀ l ∈ nms pl (pk g 0 pl.length), NameOk l := fun l hl => by
              obtain ⟨j', hj', rfl⟩ := List.mem_map.mp hl
              have := (pk_mem.mp hj').1
              exact ok _ (nm_mem (by omega)).1
            have nle : (nms pl (pk g 0 pl.length)).length ≤ 1000 := by
              have := List.length_filter_le g (List.range' 0 pl.length)
              rw [List.length_range'] at this
              unfold nms
              rw [List.length_map]
              have : (pk g 0 pl.length).length ≤ pl.length := this
              omega
            have hd13 := Dt.keep (TK.of s13) hd12
            refine ⟨_, rfl, _, rfl, .ref t, pl, ts, L, g, rfl, hd13, fine, hL, fw, fun H14 q14 s14 n14 h14 => ?_⟩
            have s24 := s13.trans s14
            refine ⟨_, rfl, _, _, _, rfl, names_dt0 h14, names_dt0 (s14 _ _ h13), plain_names nle, fun H15 s15 => ⟨_, rfl, iteF ?_⟩⟩
            have s25 := s24.trans s15
            refine ⟨_, rfl, _, rfl, .ref t, pl, ts, L, g, rfl, Dt.keep (TK.of s25) hd12, fine, hL, fw, fun H16 q16 s16 n16 h16 => ?_⟩
            refine ⟨_, rfl, _, _, Dt.dp (names_dt0 h16), Dt.dp (names_dt0 (s16 _ _ (s15 _ _ (s14 _ _ h13)))), shaped_names nok, shaped_names nok, ?_⟩
            rw [eqv_same (shaped_names nok)]
            exact ⟨_, rfl, iteF ⟨_, _, rfl, (S12.trans s25).trans s16⟩⟩
          · obtain ⟨_, _, rfl, S12⟩ := hP
            exact ⟨⟨_, _, _, _, _, _, _, rfl⟩, (D11.same S12).mono (by omega)⟩
        · rw [decide_eq_false (show ¬ (2 : Int) < 0 + (i : Int) by omega)]
          exact iteF ⟨⟨_, _, _, _, _, _, _, rfl⟩, D5.mono (by omega)⟩
      · obtain ⟨⟨x2, x3, x4, x5, x6, x7, x8, rfl⟩, _⟩ := hP
        exact ⟨_, _, _, _, _, _, _, _, rfl⟩
    · obtain ⟨x1, x2, x3, x4, x5, x6, x7, x8, rfl⟩ := hM
      refine ⟨(by show 1 ≤ sizeLine; decide), fun p1 np1 => ⟨Nat.zero_le _, fun p2 np2 => ⟨(by show 2 ≤ sizeLine; decide), fun p3 np3 => ?_⟩⟩⟩
      have h3 : Dt (upd (upd (upd H' p1 (.tup [.str (Str.ofString "a")])) p2 (.tup [])) p3 (.tup [.ref p1, .ref p2])) (.ref p3) (treeD [[97]] []) := .tup upd_same (.cons (.tup (((TK.new np2).trans (TK.new np3)).tup _ _ upd_same) (.cons (.str _) .nil)) (.cons (.tup ((TK.new np3).tup _ _ upd_same) .nil) .nil))
      generalize upd (upd (upd H' p1 (.tup [.str (Str.ofString "a")])) p2 (.tup [])) p3 (.tup [.ref p1, .ref p2]) = H3 at h3
      have tr := fine_a.tree
      have sh : SeqAt.shaped (treeD [[97]] []) = true := shaped_tree fine_a.ok fun e he => by cases he
      refine ⟨_, rfl, _, _, _, rfl, h3, by decide, by decide, fun H4 q4 s4 n4 h4 => ⟨Nat.zero_le _, fun p5 np5 => ?_⟩⟩
      have e5 : (upd H4 p5 (.tup [])) q4 = some (.tup []) := by
        rw [upd_ne (ne_of_none h4 np5)]
        exact h4
      have W5 := same_new (o := .tup []) s4 np5
      refine ⟨.tuple [], .tuple [], Dt.dp (.tup e5 .nil), Dt.dp (.tup upd_same .nil), by decide, by decide, true, rfl, iteT ?_⟩
      refine ⟨_, rfl, _, _, _, rfl, Dt.keep (TK.of W5) h3, tr, by decide, fun H6 r6 s6 h6 => ?_⟩
      have W6 := W5.trans s6
      have ewi : treeP (wi ([[97]], [])) = treeD [[97]] [] := by
        have : wi (([[97]], []) : Tr2) = ([[97]], []) := if_pos (by decide)
        rw [this]
        rfl
      rw [ewi] at h6
      refine ⟨_, rfl, _, _, Dt.dp h6, Dt.dp (Dt.keep (TK.of W6) h3), sh, sh, true, by rw [eqv_same sh], iteT ?_⟩
      refine ⟨_, rfl, _, _, _, rfl, Dt.keep (TK.of W6) h3, tr, by decide, fun H7 r7 us L s7 n7 hr7 hL7 pe _ _ => ?_⟩
      have eL : L = [([[97]], [])] := pe.det (.one (by decide))
      subst eL
      refine ⟨_, rfl, (by show 1 ≤ sizeLine; decide), fun p8 np8 => ?_⟩
      have W7 := W6.trans s7
      have hr8 : (upd H7 p8 (.lst [.ref p3])) r7 = some (.lst us) := by
        rw [upd_ne (ne_of_none hr7 np8)]
        exact hr7
      have sh2 : SeqAt.shaped (.list (([([[97]], [])] : List Tr2).map treeP)) = true := shaped_trees fun Y hY => by
        rw [List.mem_singleton.mp hY]
        exact ⟨fine_a.ok, fun e he => by cases he⟩
      refine ⟨_, _, .lst (SqL.of hr8) (DtAll.dp (DtAll.keep (TK.new np8) hL7)), .lst (SqL.of upd_same) (DtAll.dp (.cons (Dt.keep ((TK.of W7).trans (TK.new np8)) h3) .nil)), sh2, sh2, ?_⟩
      have ee : (PyData.list (([([[97]], [])] : List Tr2).map treeP)).eqv (PyData.list [treeD [[97]] []]) = true := eqv_same sh2
      rw [ee]
      exact q _
end
end Far

namespace Far
open PySem PySem.Spec PyProof.Rows L2
theorem same_none {P : Program} {w : World} {K : PySem.W.Frag} {mg : Str → Option Value} {base : Heap} {f : Addr} {fd : FuncData} : FnOk P w K mg base CX0 1 f fd ["found", "due"] (spSame 0) :=
  ⟨fun vs H Q E h => by obtain ⟨u, v, d, rfl, _⟩ := h; rfl, fun A outer s H args us vs Q E hr e b v h => by obtain ⟨_, _, _, _, _, _, hp, _⟩ := h; cases hp⟩
theorem all_mk {l : PySem.W.OpenLaw} {w : World} {K : PySem.W.Frag} {h : Heap} {mg : Str → Option Value} {fa f1 f2 f3 f4 f5 f6 f7 f8 f9 f10 f11 f12 f13 f14 f15 f16 f17 f18 f19 f20 f21 f22 f23 f24 f25 : Addr} (X : K.In h) (G : h.Ns mainGlobals mg) (hfa : mg "law" = some (.ref fa))
    {od1 od2 od3 od4 od5 od6 od7 od8 od9 od10 od11 od12 od13 od14 od15 od16 od17 od18 od19 od20 od21 od22 od23 od24 od25 an1 an2 an3 an4 an5 an6 an7 an8 an9 an10 an11 an12 an13 an14 an15 an16 an17 an18 an19 an20 an21 an22 an23 an24 an25 : Option Addr} {sl1 sl2 sl3 sl4 sl5 sl6 sl7 sl8 sl9 sl10 sl11 sl12 sl13 sl14 sl15 sl16 sl17 sl18 sl19 sl20 sl21 sl22 sl23 sl24 sl25 : Array (Option Value)} {oc1 oc2 oc3 oc4 oc5 oc6 oc7 oc8 oc9 oc10 oc11 oc12 oc13 oc14 oc15 oc16 oc17 oc18 oc19 oc20 oc21 oc22 oc23 oc24 oc25 kV1 kV2 kV3 kV4 kV5 kV6 kV7 kV8 kV9 kV10 kV11 kV12 kV13 kV14 kV15 kV16 kV17 kV18 kV19 kV20 kV21 kV22 kV23 kV24 kV25 dc1 dc2 dc3 dc4 dc5 dc6 dc7 dc8 dc9 dc10 dc11 dc12 dc13 dc14 dc15 dc16 dc17 dc18 dc19 dc20 dc21 dc22 dc23 dc24 dc25 pm1 pm2 pm3 pm4 pm5 pm6 pm7 pm8 pm9 pm10 pm11 pm12 pm13 pm14 pm15 pm16 pm17 pm18 pm19 pm20 pm21 pm22 pm23 pm24 pm25 cd1 cd2 cd3 cd4 cd5 cd6 cd7 cd8 cd9 cd10 cd11 cd12 cd13 cd14 cd15 cd16 cd17 cd18 cd19 cd20 cd21 cd22 cd23 cd24 cd25 ct1 ct2 ct3 ct4 ct5 ct6 ct7 ct8 ct9 ct10 ct11 ct12 ct13 ct14 ct15 ct16 ct17 ct18 ct19 ct20 ct21 ct22 ct23 ct24 ct25 : Value}
    (a1 : PySem.W.nsIn K mainGlobals "_law_deck" = some (some (.ref f1))) (l1 : K.lookup f1 = some ⟨oc1, od1, .func (PySem.W.fnOf "_law_deck" "_law_deck" (defArgs s_law_deck) (defBody s_law_deck) (defScope s_law_deck) .none kV1 dc1 pm1 an1 cd1 ct1), sl1⟩) (c1 : PySem.W.codeIn K cd1 "_law_deck" = true) (k1 : PySem.W.keepIn K (.ref f1) = true)
    (a2 : PySem.W.nsIn K mainGlobals "_law_draw" = some (some (.ref f2))) (l2 : K.lookup f2 = some ⟨oc2, od2, .func (PySem.W.fnOf "_law_draw" "_law_draw" (defArgs s_law_draw) (defBody s_law_draw) (defScope s_law_draw) .none kV2 dc2 pm2 an2 cd2 ct2), sl2⟩) (c2 : PySem.W.codeIn K cd2 "_law_draw" = true) (k2 : PySem.W.keepIn K (.ref f2) = true)
    (a3 : PySem.W.nsIn K mainGlobals "_law_same" = some (some (.ref f3))) (l3 : K.lookup f3 = some ⟨oc3, od3, .func (PySem.W.fnOf "_law_same" "_law_same" (defArgs s_law_same) (defBody s_law_same) (defScope s_law_same) .none kV3 dc3 pm3 an3 cd3 ct3), sl3⟩) (c3 : PySem.W.codeIn K cd3 "_law_same" = true) (k3 : PySem.W.keepIn K (.ref f3) = true)
    (a4 : PySem.W.nsIn K mainGlobals "_law_names" = some (some (.ref f4))) (l4 : K.lookup f4 = some ⟨oc4, od4, .func (PySem.W.fnOf "_law_names" "_law_names" (defArgs s_law_names) (defBody s_law_names) (defScope s_law_names) .none kV4 dc4 pm4 an4 cd4 ct4), sl4⟩) (c4 : PySem.W.codeIn K cd4 "_law_names" = true) (k4 : PySem.W.keepIn K (.ref f4) = true)
    (a5 : PySem.W.nsIn K mainGlobals "_law_tree" = some (some (.ref f5))) (l5 : K.lookup f5 = some ⟨oc5, od5, .func (PySem.W.fnOf "_law_tree" "_law_tree" (defArgs s_law_tree) (defBody s_law_tree) (defScope s_law_tree) .none kV5 dc5 pm5 an5 cd5 ct5), sl5⟩) (c5 : PySem.W.codeIn K cd5 "_law_tree" = true) (k5 : PySem.W.keepIn K (.ref f5) = true)
    (a6 : PySem.W.nsIn K mainGlobals "_law_lengths" = some (some (.ref f6))) (l6 : K.lookup f6 = some ⟨oc6, od6, .func (PySem.W.fnOf "_law_lengths" "_law_lengths" (defArgs s_law_lengths) (defBody s_law_lengths) (defScope s_law_lengths) .none kV6 dc6 pm6 an6 cd6 ct6), sl6⟩) (c6 : PySem.W.codeIn K cd6 "_law_lengths" = true) (k6 : PySem.W.keepIn K (.ref f6) = true)
    (a7 : PySem.W.nsIn K mainGlobals "_ties_of_each" = some (some (.ref f7))) (l7 : K.lookup f7 = some ⟨oc7, od7, .func (PySem.W.fnOf "_ties_of_each" "_ties_of_each" (defArgs s_ties_of_each) (defBody s_ties_of_each) (defScope s_ties_of_each) .none kV7 dc7 pm7 an7 cd7 ct7), sl7⟩) (c7 : PySem.W.codeIn K cd7 "_ties_of_each" = true) (k7 : PySem.W.keepIn K (.ref f7) = true)
    (a8 : PySem.W.nsIn K mainGlobals "walk_from" = some (some (.ref f8))) (l8 : K.lookup f8 = some ⟨oc8, od8, .func (PySem.W.fnOf "walk_from" "walk_from" (defArgs s_walk_from) (defBody s_walk_from) (defScope s_walk_from) .none kV8 dc8 pm8 an8 cd8 ct8), sl8⟩) (c8 : PySem.W.codeIn K cd8 "walk_from" = true) (k8 : PySem.W.keepIn K (.ref f8) = true)
    (a9 : PySem.W.nsIn K mainGlobals "check_places" = some (some (.ref f9))) (l9 : K.lookup f9 = some ⟨oc9, od9, .func (PySem.W.fnOf "check_places" "check_places" (defArgs s_check_places) (defBody s_check_places) (defScope s_check_places) .none kV9 dc9 pm9 an9 cd9 ct9), sl9⟩) (c9 : PySem.W.codeIn K cd9 "check_places" = true) (k9 : PySem.W.keepIn K (.ref f9) = true)
    (a10 : PySem.W.nsIn K mainGlobals "lengths_from" = some (some (.ref f10))) (l10 : K.lookup f10 = some ⟨oc10, od10, .func (PySem.W.fnOf "lengths_from" "lengths_from" (defArgs s_lengths_from) (defBody s_lengths_from) (defScope s_lengths_from) .none kV10 dc10 pm10 an10 cd10 ct10), sl10⟩) (c10 : PySem.W.codeIn K cd10 "lengths_from" = true) (k10 : PySem.W.keepIn K (.ref f10) = true)
    (a11 : PySem.W.nsIn K mainGlobals "way_between" = some (some (.ref f11))) (l11 : K.lookup f11 = some ⟨oc11, od11, .func (PySem.W.fnOf "way_between" "way_between" (defArgs s_way_between) (defBody s_way_between) (defScope s_way_between) .none kV11 dc11 pm11 an11 cd11 ct11), sl11⟩) (c11 : PySem.W.codeIn K cd11 "way_between" = true) (k11 : PySem.W.keepIn K (.ref f11) = true)
    (a12 : PySem.W.nsIn K mainGlobals "leaves_of" = some (some (.ref f12))) (l12 : K.lookup f12 = some ⟨oc12, od12, .func (PySem.W.fnOf "leaves_of" "leaves_of" (defArgs s_leaves_of) (defBody s_leaves_of) (defScope s_leaves_of) .none kV12 dc12 pm12 an12 cd12 ct12), sl12⟩) (c12 : PySem.W.codeIn K cd12 "leaves_of" = true) (k12 : PySem.W.keepIn K (.ref f12) = true)
    (a13 : PySem.W.nsIn K mainGlobals "part_of" = some (some (.ref f13))) (l13 : K.lookup f13 = some ⟨oc13, od13, .func (PySem.W.fnOf "part_of" "part_of" (defArgs s_part_of) (defBody s_part_of) (defScope s_part_of) .none kV13 dc13 pm13 an13 cd13 ct13), sl13⟩) (c13 : PySem.W.codeIn K cd13 "part_of" = true) (k13 : PySem.W.keepIn K (.ref f13) = true)
    (a14 : PySem.W.nsIn K mainGlobals "without_leaves" = some (some (.ref f14))) (l14 : K.lookup f14 = some ⟨oc14, od14, .func (PySem.W.fnOf "without_leaves" "without_leaves" (defArgs s_without_leaves) (defBody s_without_leaves) (defScope s_without_leaves) .none kV14 dc14 pm14 an14 cd14 ct14), sl14⟩) (c14 : PySem.W.codeIn K cd14 "without_leaves" = true) (k14 : PySem.W.keepIn K (.ref f14) = true)
    (a15 : PySem.W.nsIn K mainGlobals "peeled" = some (some (.ref f15))) (l15 : K.lookup f15 = some ⟨oc15, od15, .func (PySem.W.fnOf "peeled" "peeled" (defArgs s_peeled) (defBody s_peeled) (defScope s_peeled) .none kV15 dc15 pm15 an15 cd15 ct15), sl15⟩) (c15 : PySem.W.codeIn K cd15 "peeled" = true) (k15 : PySem.W.keepIn K (.ref f15) = true)
    (a16 : PySem.W.nsIn K mainGlobals "_places_near" = some (some (.ref f16))) (l16 : K.lookup f16 = some ⟨oc16, od16, .func (PySem.W.fnOf "_places_near" "_places_near" (defArgs s_places_near) (defBody s_places_near) (defScope s_places_near) .none kV16 dc16 pm16 an16 cd16 ct16), sl16⟩) (c16 : PySem.W.codeIn K cd16 "_places_near" = true) (k16 : PySem.W.keepIn K (.ref f16) = true)
    (a17 : PySem.W.nsIn K mainGlobals "_helpers" = some (some (.ref f17))) (l17 : K.lookup f17 = some ⟨oc17, od17, .func (PySem.W.fnOf "_helpers" "_helpers" (defArgs s_helpers) (defBody s_helpers) (defScope s_helpers) .none kV17 dc17 pm17 an17 cd17 ct17), sl17⟩) (c17 : PySem.W.codeIn K cd17 "_helpers" = true) (k17 : PySem.W.keepIn K (.ref f17) = true)
    (a18 : PySem.W.nsIn K mainGlobals "_fewest_with" = some (some (.ref f18))) (l18 : K.lookup f18 = some ⟨oc18, od18, .func (PySem.W.fnOf "_fewest_with" "_fewest_with" (defArgs s_fewest_with) (defBody s_fewest_with) (defScope s_fewest_with) .none kV18 dc18 pm18 an18 cd18 ct18), sl18⟩) (c18 : PySem.W.codeIn K cd18 "_fewest_with" = true) (k18 : PySem.W.keepIn K (.ref f18) = true)
    (a19 : PySem.W.nsIn K mainGlobals "fewest_within" = some (some (.ref f19))) (l19 : K.lookup f19 = some ⟨oc19, od19, .func (PySem.W.fnOf "fewest_within" "fewest_within" (defArgs s_fewest_within) (defBody s_fewest_within) (defScope s_fewest_within) .none kV19 dc19 pm19 an19 cd19 ct19), sl19⟩) (c19 : PySem.W.codeIn K cd19 "fewest_within" = true) (k19 : PySem.W.keepIn K (.ref f19) = true)
    (a20 : PySem.W.nsIn K mainGlobals "_law_leaves" = some (some (.ref f20))) (l20 : K.lookup f20 = some ⟨oc20, od20, .func (PySem.W.fnOf "_law_leaves" "_law_leaves" (defArgs s_law_leaves) (defBody s_law_leaves) (defScope s_law_leaves) .none kV20 dc20 pm20 an20 cd20 ct20), sl20⟩) (c20 : PySem.W.codeIn K cd20 "_law_leaves" = true) (k20 : PySem.W.keepIn K (.ref f20) = true)
    (a21 : PySem.W.nsIn K mainGlobals "_law_without" = some (some (.ref f21))) (l21 : K.lookup f21 = some ⟨oc21, od21, .func (PySem.W.fnOf "_law_without" "_law_without" (defArgs s_law_without) (defBody s_law_without) (defScope s_law_without) .none kV21 dc21 pm21 an21 cd21 ct21), sl21⟩) (c21 : PySem.W.codeIn K cd21 "_law_without" = true) (k21 : PySem.W.keepIn K (.ref f21) = true)
    (a22 : PySem.W.nsIn K mainGlobals "_law_peeled" = some (some (.ref f22))) (l22 : K.lookup f22 = some ⟨oc22, od22, .func (PySem.W.fnOf "_law_peeled" "_law_peeled" (defArgs s_law_peeled) (defBody s_law_peeled) (defScope s_law_peeled) .none kV22 dc22 pm22 an22 cd22 ct22), sl22⟩) (c22 : PySem.W.codeIn K cd22 "_law_peeled" = true) (k22 : PySem.W.keepIn K (.ref f22) = true)
    (a23 : PySem.W.nsIn K mainGlobals "_law_peeled_right" = some (some (.ref f23))) (l23 : K.lookup f23 = some ⟨oc23, od23, .func (PySem.W.fnOf "_law_peeled_right" "_law_peeled_right" (defArgs s_law_peeled_right) (defBody s_law_peeled_right) (defScope s_law_peeled_right) .none kV23 dc23 pm23 an23 cd23 ct23), sl23⟩) (c23 : PySem.W.codeIn K cd23 "_law_peeled_right" = true) (k23 : PySem.W.keepIn K (.ref f23) = true)
    (a24 : PySem.W.nsIn K mainGlobals "_law_fewest" = some (some (.ref f24))) (l24 : K.lookup f24 = some ⟨oc24, od24, .func (PySem.W.fnOf "_law_fewest" "_law_fewest" (defArgs s_law_fewest) (defBody s_law_fewest) (defScope s_law_fewest) .none kV24 dc24 pm24 an24 cd24 ct24), sl24⟩) (c24 : PySem.W.codeIn K cd24 "_law_fewest" = true) (k24 : PySem.W.keepIn K (.ref f24) = true)
    (a25 : PySem.W.nsIn K mainGlobals "law" = some (some (.ref f25))) (l25 : K.lookup f25 = some ⟨oc25, od25, .func (PySem.W.fnOf "law" "law" (defArgs s_law) (defBody s_law) (defScope s_law) .none kV25 dc25 pm25 an25 cd25 ct25), sl25⟩) (c25 : PySem.W.codeIn K cd25 "law" = true) (k25 : PySem.W.keepIn K (.ref f25) = true)
    (zabs : PySem.W.nsIn K mainGlobals "abs" = some none)
    (zany : PySem.W.nsIn K mainGlobals "any" = some none)
    (zbool : PySem.W.nsIn K mainGlobals "bool" = some none)
    (zenumerate : PySem.W.nsIn K mainGlobals "enumerate" = some none)
    (zint : PySem.W.nsIn K mainGlobals "int" = some none)
    (zisinstance : PySem.W.nsIn K mainGlobals "isinstance" = some none)
    (zlen : PySem.W.nsIn K mainGlobals "len" = some none)
    (zlist : PySem.W.nsIn K mainGlobals "list" = some none)
    (zmax : PySem.W.nsIn K mainGlobals "max" = some none)
    (zmin : PySem.W.nsIn K mainGlobals "min" = some none)
    (zrange : PySem.W.nsIn K mainGlobals "range" = some none)
    (zsorted : PySem.W.nsIn K mainGlobals "sorted" = some none)
    (zstr : PySem.W.nsIn K mainGlobals "str" = some none)
    (zsum : PySem.W.nsIn K mainGlobals "sum" = some none)
    (ztuple : PySem.W.nsIn K mainGlobals "tuple" = some none)
    (zzip : PySem.W.nsIn K mainGlobals "zip" = some none) :
    ∃ fd : FuncData, (∀ (s : Shared) (v : Value), BindsTo s fd ⟨[v], []⟩ [("script", v)]) ∧ ∀ base : Heap, K.In base → base.Ns mainGlobals mg → FnOk l.prog w K mg base CX0 8 fa fd ["script"] (spLaw K) := by
  have e := hfa.symm.trans (PySem.W.mg_of X G a25)
  cases e
  have F1 := fun_mk (st := s_law_deck) l1 c1 k1
  have b1 := F1.binds (ps := ["script"]) fun _ _ _ _ _ _ us hl => match us, hl with | [_], _ => rfl
  have F2 := fun_mk (st := s_law_draw) l2 c2 k2
  have b2 := F2.binds (ps := ["deck", "most"]) fun _ _ _ _ _ _ us hl => match us, hl with | [_, _], _ => rfl
  have F3 := fun_mk (st := s_law_same) l3 c3 k3
  have b3 := F3.binds (ps := ["found", "due"]) fun _ _ _ _ _ _ us hl => match us, hl with | [_, _], _ => rfl
  have F4 := fun_mk (st := s_law_names) l4 c4 k4
  have b4 := F4.binds (ps := ["deck", "many", "taken"]) fun _ _ _ _ _ _ us hl => match us, hl with | [_, _, _], _ => rfl
  have F5 := fun_mk (st := s_law_tree) l5 c5 k5
  have b5 := F5.binds (ps := ["deck", "most", "taken"]) fun _ _ _ _ _ _ us hl => match us, hl with | [_, _, _], _ => rfl
  have F6 := fun_mk (st := s_law_lengths) l6 c6 k6
  have b6 := F6.binds (ps := ["tree", "place"]) fun _ _ _ _ _ _ us hl => match us, hl with | [_, _], _ => rfl
  have F7 := fun_mk (st := s_ties_of_each) l7 c7 k7
  have b7 := F7.binds (ps := ["tree"]) fun _ _ _ _ _ _ us hl => match us, hl with | [_], _ => rfl
  have F8 := fun_mk (st := s_walk_from) l8 c8 k8
  have b8 := F8.binds (ps := ["tree", "start"]) fun _ _ _ _ _ _ us hl => match us, hl with | [_, _], _ => rfl
  have F9 := fun_mk (st := s_check_places) l9 c9 k9
  have b9 := F9.binds (ps := ["tree", "names"]) fun _ _ _ _ _ _ us hl => match us, hl with | [_, _], _ => rfl
  have F10 := fun_mk (st := s_lengths_from) l10 c10 k10
  have b10 := F10.binds (ps := ["tree", "place"]) fun _ _ _ _ _ _ us hl => match us, hl with | [_, _], _ => rfl
  have F11 := fun_mk (st := s_way_between) l11 c11 k11
  have b11 := F11.binds (ps := ["tree", "one", "other"]) fun _ _ _ _ _ _ us hl => match us, hl with | [_, _, _], _ => rfl
  have F12 := fun_mk (st := s_leaves_of) l12 c12 k12
  have b12 := F12.binds (ps := ["tree"]) fun _ _ _ _ _ _ us hl => match us, hl with | [_], _ => rfl
  have F13 := fun_mk (st := s_part_of) l13 c13 k13
  have b13 := F13.binds (ps := ["tree", "places"]) fun _ _ _ _ _ _ us hl => match us, hl with | [_, _], _ => rfl
  have F14 := fun_mk (st := s_without_leaves) l14 c14 k14
  have b14 := F14.binds (ps := ["tree"]) fun _ _ _ _ _ _ us hl => match us, hl with | [_], _ => rfl
  have F15 := fun_mk (st := s_peeled) l15 c15 k15
  have b15 := F15.binds (ps := ["tree"]) fun _ _ _ _ _ _ us hl => match us, hl with | [_], _ => rfl
  have F16 := fun_mk (st := s_places_near) l16 c16 k16
  have b16 := F16.binds (ps := ["tree", "place", "length"]) fun _ _ _ _ _ _ us hl => match us, hl with | [_, _, _], _ => rfl
  have F17 := fun_mk (st := s_helpers) l17 c17 k17
  have b17 := F17.binds (ps := ["tree", "near"]) fun _ _ _ _ _ _ us hl => match us, hl with | [_, _], _ => rfl
  have F18 := fun_mk (st := s_fewest_with) l18 c18 k18
  have b18 := F18.binds (ps := ["chosen", "near", "helpers"]) fun _ _ _ _ _ _ us hl => match us, hl with | [_, _, _], _ => rfl
  have F19 := fun_mk (st := s_fewest_within) l19 c19 k19
  have b19 := F19.binds (ps := ["tree", "length"]) fun _ _ _ _ _ _ us hl => match us, hl with | [_, _], _ => rfl
  have F20 := fun_mk (st := s_law_leaves) l20 c20 k20
  have b20 := F20.binds (ps := ["tree"]) fun _ _ _ _ _ _ us hl => match us, hl with | [_], _ => rfl
  have F21 := fun_mk (st := s_law_without) l21 c21 k21
  have b21 := F21.binds (ps := ["tree"]) fun _ _ _ _ _ _ us hl => match us, hl with | [_], _ => rfl
  have F22 := fun_mk (st := s_law_peeled) l22 c22 k22
  have b22 := F22.binds (ps := ["tree"]) fun _ _ _ _ _ _ us hl => match us, hl with | [_], _ => rfl
  have F23 := fun_mk (st := s_law_peeled_right) l23 c23 k23
  have b23 := F23.binds (ps := ["tree"]) fun _ _ _ _ _ _ us hl => match us, hl with | [_], _ => rfl
  have F24 := fun_mk (st := s_law_fewest) l24 c24 k24
  have b24 := F24.binds (ps := ["tree", "length"]) fun _ _ _ _ _ _ us hl => match us, hl with | [_, _], _ => rfl
  have F25 := fun_mk (st := s_law) l25 c25 k25
  have TW : TxtW mg := ⟨PySem.W.mg_none_of X G ztuple⟩
  have T0 : TxtG mg := ⟨PySem.W.mg_none_of X G zlen, PySem.W.mg_none_of X G zmax, PySem.W.mg_none_of X G zmin, PySem.W.mg_none_of X G zint, PySem.W.mg_none_of X G zrange, PySem.W.mg_none_of X G zlist, PySem.W.mg_none_of X G ztuple, PySem.W.mg_none_of X G zabs⟩
  have TS : TxtS mg := ⟨PySem.W.mg_none_of X G zisinstance, PySem.W.mg_none_of X G ztuple, PySem.W.mg_none_of X G zstr, PySem.W.mg_none_of X G zint, PySem.W.mg_none_of X G zbool, PySem.W.mg_none_of X G zlen, PySem.W.mg_none_of X G zzip⟩
  have TK0 : TxtK0 mg := ⟨PySem.W.mg_none_of X G ztuple, PySem.W.mg_none_of X G zenumerate⟩
  have TL : TxtL mg := ⟨PySem.W.mg_none_of X G zlen⟩
  have TF : TxtF mg := ⟨PySem.W.mg_none_of X G zzip, PySem.W.mg_none_of X G zsorted, PySem.W.mg_none_of X G zlist, PySem.W.mg_none_of X G zany, PySem.W.mg_none_of X G zlen, PySem.W.mg_none_of X G ztuple⟩
  have TR : TxtR mg := ⟨PySem.W.mg_none_of X G zisinstance, PySem.W.mg_none_of X G zlist, PySem.W.mg_none_of X G ztuple⟩
  have TW2 : TxtW2 mg := ⟨PySem.W.mg_none_of X G zlen, PySem.W.mg_none_of X G zsum, PySem.W.mg_none_of X G zrange, PySem.W.mg_none_of X G zenumerate, PySem.W.mg_none_of X G ztuple⟩
  have TLL : TxtLL mg := ⟨PySem.W.mg_none_of X G zlen, PySem.W.mg_none_of X G zrange, PySem.W.mg_none_of X G zlist, PySem.W.mg_none_of X G zmax⟩
  have C_law_deck : ∀ base : Heap, Cal l.prog w K mg base 1 "_law_deck" (spDeck K) := fun base => ⟨f1, _, _, ok_deck F1 T0, PySem.W.mg_of X G a1, k1, b1⟩
  have C_law_draw : ∀ base : Heap, Cal l.prog w K mg base 1 "_law_draw" spDraw := fun base => ⟨f2, _, _, ok_draw F2 T0, PySem.W.mg_of X G a2, k2, b2⟩
  have C_same0 : ∀ base : Heap, Cal l.prog w K mg base 1 "_law_same" (spSame 0) := fun base => ⟨f3, _, _, same_none, PySem.W.mg_of X G a3, k3, b3⟩
  have C_same1 : ∀ base : Heap, Cal l.prog w K mg base 2 "_law_same" (spSame 1) := fun base => ⟨f3, _, _, ok_same (by decide) F3 TS (C_same0 base), PySem.W.mg_of X G a3, k3, b3⟩
  have C_same2 : ∀ base : Heap, Cal l.prog w K mg base 3 "_law_same" (spSame 2) := fun base => ⟨f3, _, _, ok_same (by decide) F3 TS (C_same1 base), PySem.W.mg_of X G a3, k3, b3⟩
  have C_same3 : ∀ base : Heap, Cal l.prog w K mg base 4 "_law_same" (spSame 3) := fun base => ⟨f3, _, _, ok_same (by decide) F3 TS (C_same2 base), PySem.W.mg_of X G a3, k3, b3⟩
  have C_same4 : ∀ base : Heap, Cal l.prog w K mg base 5 "_law_same" (spSame 4) := fun base => ⟨f3, _, _, ok_same (by decide) F3 TS (C_same3 base), PySem.W.mg_of X G a3, k3, b3⟩
  have C_same5 : ∀ base : Heap, Cal l.prog w K mg base 6 "_law_same" (spSame 5) := fun base => ⟨f3, _, _, ok_same (by decide) F3 TS (C_same4 base), PySem.W.mg_of X G a3, k3, b3⟩
  have C_law_names : ∀ base : Heap, Cal l.prog w K mg base 2 "_law_names" spNames := fun base => ⟨f4, _, _, ok_names F4 T0 (C_law_draw base), PySem.W.mg_of X G a4, k4, b4⟩
  have C_law_tree : ∀ base : Heap, Cal l.prog w K mg base 3 "_law_tree" spTree := fun base => ⟨f5, _, _, ok_tree F5 T0 (C_law_draw base) (C_law_names base), PySem.W.mg_of X G a5, k5, b5⟩
  have C_law_lengths : ∀ base : Heap, Cal l.prog w K mg base 2 "_law_lengths" spLay := fun base => ⟨f6, _, _, ok_lay F6, PySem.W.mg_of X G a6, k6, b6⟩
  have C_ties_of_each : ∀ base : Heap, Cal l.prog w K mg base 1 "_ties_of_each" spTies := fun base => ⟨f7, _, _, ok_ties_of_each F7, PySem.W.mg_of X G a7, k7, b7⟩
  have Cwalk_from : ∀ base : Heap, Cal l.prog w K mg base 2 "walk_from" spWalk := fun base => ⟨f8, _, _, ok_walk_from F8 (C_ties_of_each base), PySem.W.mg_of X G a8, k8, b8⟩
  have Ccheck_places : ∀ base : Heap, Cal l.prog w K mg base 1 "check_places" spCheck := fun base => ⟨f9, _, _, ok_check_places F9, PySem.W.mg_of X G a9, k9, b9⟩
  have Clengths_from : ∀ base : Heap, Cal l.prog w K mg base 3 "lengths_from" spLens := fun base => ⟨f10, _, _, ok_lengths_from F10 TW (Ccheck_places base) (Cwalk_from base), PySem.W.mg_of X G a10, k10, b10⟩
  have Cway_between : ∀ base : Heap, Cal l.prog w K mg base 3 "way_between" spWay := fun base => ⟨f11, _, _, ok_way_between F11 TW (Ccheck_places base) (Cwalk_from base), PySem.W.mg_of X G a11, k11, b11⟩
  have Cleaves_of : ∀ base : Heap, Cal l.prog w K mg base 1 "leaves_of" spLeaves := fun base => ⟨f12, _, _, ok_leaves_of F12 TK0, PySem.W.mg_of X G a12, k12, b12⟩
  have Cpart_of : ∀ base : Heap, Cal l.prog w K mg base 1 "part_of" spPart := fun base => ⟨f13, _, _, ok_part_of F13 TK0, PySem.W.mg_of X G a13, k13, b13⟩
  have Cwithout_leaves : ∀ base : Heap, Cal l.prog w K mg base 2 "without_leaves" spWithout := fun base => ⟨f14, _, _, ok_without_leaves F14 TL (Cleaves_of base) (Cpart_of base), PySem.W.mg_of X G a14, k14, b14⟩
  have Cpeeled : ∀ base : Heap, Cal l.prog w K mg base 3 "peeled" spPeeled := fun base => ⟨f15, _, _, ok_peeled F15 TL (Cwithout_leaves base), PySem.W.mg_of X G a15, k15, b15⟩
  have C_places_near : ∀ base : Heap, Cal l.prog w K mg base 4 "_places_near" spNear := fun base => ⟨f16, _, _, ok_places_near F16 TF (Clengths_from base), PySem.W.mg_of X G a16, k16, b16⟩
  have C_helpers : ∀ base : Heap, Cal l.prog w K mg base 4 "_helpers" spHelpers := fun base => ⟨f17, _, _, ok_helpers F17 TF (Clengths_from base) (Cway_between base), PySem.W.mg_of X G a17, k17, b17⟩
  have C_fewest_with : ∀ base : Heap, Cal l.prog w K mg base 1 "_fewest_with" spFewW := fun base => ⟨f18, _, _, ok_fewest_with F18 TF, PySem.W.mg_of X G a18, k18, b18⟩
  have Cfewest_within : ∀ base : Heap, Cal l.prog w K mg base 5 "fewest_within" spFew := fun base => ⟨f19, _, _, ok_fewest_within F19 TF (C_places_near base) (C_helpers base) (C_fewest_with base), PySem.W.mg_of X G a19, k19, b19⟩
  have C_law_leaves : ∀ base : Heap, Cal l.prog w K mg base 1 "_law_leaves" spLeaves := fun base => ⟨f20, _, _, ok_law_leaves F20 TF, PySem.W.mg_of X G a20, k20, b20⟩
  have C_law_without : ∀ base : Heap, Cal l.prog w K mg base 2 "_law_without" spWithout := fun base => ⟨f21, _, _, ok_law_without F21 TF (C_law_leaves base), PySem.W.mg_of X G a21, k21, b21⟩
  have C_law_peeled : ∀ base : Heap, Cal l.prog w K mg base 3 "_law_peeled" spPeeled := fun base => ⟨f22, _, _, ok_law_peeled F22 TF (C_law_without base), PySem.W.mg_of X G a22, k22, b22⟩
  have C_law_peeled_right : ∀ base : Heap, Cal l.prog w K mg base 7 "_law_peeled_right" spPR := fun base => ⟨f23, _, _, ok_law_pr F23 TR (C_law_peeled base) (Cpeeled base) (C_same5 base), PySem.W.mg_of X G a23, k23, b23⟩
  have C_law_fewest : ∀ base : Heap, Cal l.prog w K mg base 3 "_law_fewest" spLFew := fun base => ⟨f24, _, _, ok_law_fewest F24 TW2 (C_law_lengths base), PySem.W.mg_of X G a24, k24, b24⟩
  exact ⟨_, fun s v => .of_eq rfl, fun base _ _ => ok_law F25 TLL (C_law_deck base) (C_law_draw base) (C_law_tree base) (C_same4 base) (Cleaves_of base) (C_law_leaves base) (Cwithout_leaves base) (C_law_without base) (C_law_peeled_right base) (Cpeeled base) (C_law_lengths base) (C_law_fewest base) (Cfewest_within base)⟩
end Far
open PySem PySem.W PyProof.Rows in
set_option maxRecDepth 100000 in
set_option maxHeartbeats 0 in
theorem PySem.Challenge.cw_farplaces_k23_leaves_and_near_places_holds : PySem.Challenge.rw_farplaces_k23_leaves_and_near_places.Holds := by
  w_on; o_law; k_head; (case hw => w_witness2)
  k_fill
  refine L2.walk_ofB (l := PySem.Challenge.rw_farplaces_k23_leaves_and_near_places) (n := 63) (k := 8) (x := "script") (CX := fun _ => L2.CX0) (sp := fun w => Far.spLaw _) rfl (by decide) rfl ⟨rfl, by decide, by decide⟩ (fun w h Y => PySem.W.kIn_of Y) ?F (fun _ _ a ns hl hb _ hS => ⟨a, ns, rfl, hS, hl, hb, fun _ => rfl⟩) (fun _ _ _ _ _ h => h)
  case F =>
    intro w mg fa h KX G hmg
    refine' Far.all_mk KX G hmg ?a1 ?l1 ?c1 ?k1 ?a2 ?l2 ?c2 ?k2 ?a3 ?l3 ?c3 ?k3 ?a4 ?l4 ?c4 ?k4 ?a5 ?l5 ?c5 ?k5 ?a6 ?l6 ?c6 ?k6 ?a7 ?l7 ?c7 ?k7 ?a8 ?l8 ?c8 ?k8 ?a9 ?l9 ?c9 ?k9 ?a10 ?l10 ?c10 ?k10 ?a11 ?l11 ?c11 ?k11 ?a12 ?l12 ?c12 ?k12 ?a13 ?l13 ?c13 ?k13 ?a14 ?l14 ?c14 ?k14 ?a15 ?l15 ?c15 ?k15 ?a16 ?l16 ?c16 ?k16 ?a17 ?l17 ?c17 ?k17 ?a18 ?l18 ?c18 ?k18 ?a19 ?l19 ?c19 ?k19 ?a20 ?l20 ?c20 ?k20 ?a21 ?l21 ?c21 ?k21 ?a22 ?l22 ?c22 ?k22 ?a23 ?l23 ?c23 ?k23 ?a24 ?l24 ?c24 ?k24 ?a25 ?l25 ?c25 ?k25 ?zabs ?zany ?zbool ?zenumerate ?zint ?zisinstance ?zlen ?zlist ?zmax ?zmin ?zrange ?zsorted ?zstr ?zsum ?ztuple ?zzip
    (case a1 => k_is); (case l1 => k_is); (case c1 => k_is); (case k1 => k_is); (case a2 => k_is); (case l2 => k_is); (case c2 => k_is); (case k2 => k_is); (case a3 => k_is); (case l3 => k_is); (case c3 => k_is); (case k3 => k_is); (case a4 => k_is); (case l4 => k_is); (case c4 => k_is); (case k4 => k_is); (case a5 => k_is); (case l5 => k_is); (case c5 => k_is); (case k5 => k_is); (case a6 => k_is); (case l6 => k_is); (case c6 => k_is); (case k6 => k_is); (case a7 => k_is); (case l7 => k_is); (case c7 => k_is); (case k7 => k_is); (case a8 => k_is); (case l8 => k_is); (case c8 => k_is); (case k8 => k_is); (case a9 => k_is); (case l9 => k_is); (case c9 => k_is); (case k9 => k_is); (case a10 => k_is); (case l10 => k_is); (case c10 => k_is); (case k10 => k_is); (case a11 => k_is); (case l11 => k_is); (case c11 => k_is); (case k11 => k_is); (case a12 => k_is); (case l12 => k_is); (case c12 => k_is); (case k12 => k_is); (case a13 => k_is); (case l13 => k_is); (case c13 => k_is); (case k13 => k_is); (case a14 => k_is); (case l14 => k_is); (case c14 => k_is); (case k14 => k_is); (case a15 => k_is); (case l15 => k_is); (case c15 => k_is); (case k15 => k_is); (case a16 => k_is); (case l16 => k_is); (case c16 => k_is); (case k16 => k_is); (case a17 => k_is); (case l17 => k_is); (case c17 => k_is); (case k17 => k_is); (case a18 => k_is); (case l18 => k_is); (case c18 => k_is); (case k18 => k_is); (case a19 => k_is); (case l19 => k_is); (case c19 => k_is); (case k19 => k_is); (case a20 => k_is); (case l20 => k_is); (case c20 => k_is); (case k20 => k_is); (case a21 => k_is); (case l21 => k_is); (case c21 => k_is); (case k21 => k_is); (case a22 => k_is); (case l22 => k_is); (case c22 => k_is); (case k22 => k_is); (case a23 => k_is); (case l23 => k_is); (case c23 => k_is); (case k23 => k_is); (case a24 => k_is); (case l24 => k_is); (case c24 => k_is); (case k24 => k_is); (case a25 => k_is); (case l25 => k_is); (case c25 => k_is); (case k25 => k_is); (case zabs => k_is); (case zany => k_is); (case zbool => k_is); (case zenumerate => k_is); (case zint => k_is); (case zisinstance => k_is); (case zlen => k_is); (case zlist => k_is); (case zmax => k_is); (case zmin => k_is); (case zrange => k_is); (case zsorted => k_is); (case zstr => k_is); (case zsum => k_is); (case ztuple => k_is); (case zzip => k_is)

