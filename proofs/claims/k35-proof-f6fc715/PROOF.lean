import PyProof.Rows.All
import Wide.All
import OpenK.AllK
import Wide.FinOn
import HandS.ForMost
import HandS.Wide
import HandS.Codes
import HandS.Conv
import HandS.TupAny
import HandS.Style
import HandS.IsInst
import HandS.FStr
import HandS.DictComp
import HandS.NoneIn
import HandS.WideBits
import KE.IntBitsLaws
import KE.GoesEnum
import KE.GoesMore
import PyProof.EnumMake
import HandS.List
import KE.KTupSum
import PyProof.WalkInts
import HandS.Zip
import HandS.Strs
import HandS.Gcd
import HandS.DeepEq
import HandS.SortInts
import HandS.Finally
import HandS.More
import KE.KEqDict
import HandS.ListItems
import HandS.Lambda
import HandS.SortKw
import KE.SortKeyHeap
import KE.KSortKey
import KE.SortData
import HandS.Sort
import KE.DataMinKey
import PyProof.DictUpdate
import PyProof.EvalArms
import KE.DataCmp
import HandS.TupLe
import KE.GoesZip
import KE.KDictZip
import HandS.OwnIter
import KE.OsArith
import PyProof.Rows.BitMore
import HandS.Star
import HandS.Exc
import HandS.ExcInit
import HandS.ClsMeth
import HandS.ExcValue
import HandS.TryOnly
import HandS.ExcIs
import HandS.ExcField
import HandS.WordsExc
import HandS.EndBits
import HandS.EndTab
import KE.KNest
import KE.KNestM
import PySem.Challenge.RW_farplaces_k35_whole_so_many_times_as_lon
set_option Elab.async false
set_option linter.all false
set_option maxRecDepth 100000
set_option maxHeartbeats 8000000
namespace Far
open PySem PySem.Spec PyProof.Rows L2
open C8 (pss_cut tCut)
open SX (S)
def topS (i : Nat) : Stmt := PySem.Challenge.pw_farplaces_k35_whole_so_many_times_as_lon.main.body.getD i (.Pass ⟨0, 0, 0, 0⟩)

theorem hd_of {A : Around} {k : Nat} (hr : Room k A) (h : 1 ≤ k) : A.units + 64 < cLine := by
  have := hr.units
  omega

/-- a def of the module that may be called by its name -/
structure Cal (P : Program) (w : World) (K : PySem.W.Frag) (mg : Str → Option Value) (base : Heap) (k : Nat) (x : Str) (sp : Sp) : Prop where
  ex : ∃ (f : Addr) (fd : FuncData) (ps : List Str), FnOk P w K mg base CX0 k f fd ps sp ∧ mg x = some (.ref f) ∧ PySem.W.keepIn K (.ref f) = true ∧ Binds K fd ps []
theorem pe_c {X : Cx} {k j : Nat} {x : Str} {sp : Sp} {p pos : Pos} {e : Expr} {es : List Expr} {t : TA} (c : Cal X.prog X.w X.K X.mg X.base k x sp) (hr : Room j X.A) (hk : k ≤ j) (hg : Gl X x) (ha : PA X (e :: es) t)
    (hdb : (x == ("__debug__" : Str)) = false := by decide) (he : starEach (e :: es) X.env = (false, eval e X.env) :: starEach es X.env := by rfl) (hpl : (backTo pos (starEach es X.env)).any (·.1) = false := by rfl) :
    PE X (.Call (.Name x p) (e :: es) [] pos) (tCall sp [] E0 t) := by
  obtain ⟨f, fd, ps, F, hm, kp, b⟩ := c.ex
  exact pe_call F (hr.mono hk) hg hm kp b .nil pass0 ha hdb he hpl

theorem bt_len : bootBuiltins ("len" : Str) = some (.builtin "len") := by decide +kernel
theorem bt_sum : bootBuiltins ("sum" : Str) = some (.builtin "sum") := by decide +kernel
theorem bt_max : bootBuiltins ("max" : Str) = some (.builtin "max") := by decide +kernel
theorem bt_all : bootBuiltins ("all" : Str) = some (.builtin "all") := by decide +kernel
theorem bt_isinstance : bootBuiltins ("isinstance" : Str) = some (.builtin "isinstance") := by decide +kernel
theorem bt_int : bootBuiltins ("int" : Str) = some (.type "int") := by decide +kernel
theorem bt_str : bootBuiltins ("str" : Str) = some (.type "str") := by decide +kernel
theorem bt_tuple : bootBuiltins ("tuple" : Str) = some (.type "tuple") := by decide +kernel
theorem bt_bool : bootBuiltins ("bool" : Str) = some (.type "bool") := by decide +kernel
theorem bt_list : bootBuiltins ("list" : Str) = some (.type "list") := by decide +kernel
/-- rules with the written part named, for use within a comprehension -/
def rLenV (K : PySem.W.Frag) : List V → Hp → VK → Prop := fun xs H Q => ∃ x n, xs = [x] ∧ LenV K x H n ∧ Q (.int n) H
theorem lenK {X : Cx} {K : PySem.W.Frag} (e : X.K = K := by rfl) : CallR X (.builtin "len") (rLenV K) := by
  subst e
  exact call_len
theorem ixl {X : Cx} {K : PySem.W.Frag} (e : X.K = K := by rfl) : IxR X (rIxL K) := by
  subst e
  exact ix_list
theorem ixt {X : Cx} {K : PySem.W.Frag} (e : X.K = K := by rfl) : IxR X (rIxT K) := by
  subst e
  exact ix_tup
/-- what the module's names hold that are built-ins, and its constants -/
structure Txt (mg : Str → Option Value) : Prop where
  len : mg "len" = none
  sum : mg "sum" = none
  range : mg "range" = none
  int : mg "int" = none
  max : mg "max" = none
  list : mg "list" = none
  tuple : mg "tuple" = none

/-- all that stood stands as it was, but for the one object -/
def SmX (d : Addr) (H H' : Hp) : Prop := ∀ b o, b ≠ d → H b = some o → H' b = some o
theorem SmX.refl {d : Addr} (H : Hp) : SmX d H H := fun _ _ _ h => h
theorem SmX.trans {d : Addr} {H H1 H2 : Hp} (a : SmX d H H1) (b : SmX d H1 H2) : SmX d H H2 := fun x o n h => b x o n (a x o n h)
theorem SmX.new {d : Addr} {H H1 : Hp} {p : Addr} {o : HO} (a : SmX d H H1) (n : H1 p = none) : SmX d H (upd H1 p o) := fun x u nx h => by
  rw [upd_ne (ne_of_none (a x u nx h) n)]
  exact a x u nx h
theorem SmX.mut {d : Addr} {H H1 : Hp} {o : HO} (a : SmX d H H1) : SmX d H (upd H1 d o) := fun x u nx h => by
  rw [upd_ne nx]
  exact a x u nx h
/-- an object that the first heap does not know may change -/
theorem SmX.put {d : Addr} {H H1 : Hp} {p : Addr} {o : HO} (a : SmX d H H1) (n : H p = none) : SmX d H (upd H1 p o) := fun x u nx h => by
  rw [upd_ne (ne_of_none h n)]
  exact a x u nx h

/-- the deck at d, its cells at c: at most n were mixed -/
def DeckAt (H : Hp) (d c : Addr) (n : Nat) : Prop := ∃ (cs : List Int) (i l m z : Int), H d = some (.lst [.ref c, .int i, .int l, .int m, .int z]) ∧ H c = some (.lst (cs.map V.int)) ∧ c ≠ d ∧ cs.length ≤ 63 ∧ 0 ≤ i ∧ i ≤ 63 ∧ 0 ≤ l ∧ 0 ≤ m ∧ m ≤ n
theorem DeckAt.new {H : Hp} {d c p : Addr} {o : HO} {n : Nat} (h : DeckAt H d c n) (np : H p = none) : DeckAt (upd H p o) d c n := by
  obtain ⟨cs, i, l, m, z, h1, h2, h3⟩ := h
  exact ⟨cs, i, l, m, z, by rw [upd_ne (ne_of_none h1 np)]; exact h1, by rw [upd_ne (ne_of_none h2 np)]; exact h2, h3⟩
theorem DeckAt.put {H : Hp} {d c p : Addr} {o : HO} {n : Nat} (h : DeckAt H d c n) (nd : p ≠ d) (nc : p ≠ c) : DeckAt (upd H p o) d c n := by
  obtain ⟨cs, i, l, m, z, h1, h2, h3⟩ := h
  exact ⟨cs, i, l, m, z, by rw [upd_ne nd.symm]; exact h1, by rw [upd_ne nc.symm]; exact h2, h3⟩
theorem DeckAt.nd {H : Hp} {d c p : Addr} {n : Nat} (h : DeckAt H d c n) (np : H p = none) : p ≠ d := fun e => by
  obtain ⟨_, _, _, _, _, h1, _⟩ := h
  rw [e, h1] at np
  cases np
theorem DeckAt.nc {H : Hp} {d c p : Addr} {n : Nat} (h : DeckAt H d c n) (np : H p = none) : p ≠ c := fun e => by
  obtain ⟨_, _, _, _, _, _, h2, _⟩ := h
  rw [e, h2] at np
  cases np
theorem DeckAt.mono {H : Hp} {d c : Addr} {n m : Nat} (h : DeckAt H d c n) (le : n ≤ m) : DeckAt H d c m := by
  obtain ⟨cs, i, l, m', z, h1, h2, h3, h4, h5, h6, h7, h8, h9⟩ := h
  exact ⟨cs, i, l, m', z, h1, h2, h3, h4, h5, h6, h7, h8, by omega⟩
theorem SmX.free {d : Addr} {H H' : Hp} {p : Addr} (a : SmX d H H') (n : H' p = none) (nd : p ≠ d) : H p = none := by
  cases q : H p with
  | none => rfl
  | some o =>
    rw [a p o nd q] at n
    cases n

/-- the signs of a name -/
def NameOk (l : List Nat) : Prop := 1 ≤ l.length ∧ l.length ≤ 8 ∧ ∀ c ∈ l, 97 ≤ c ∧ c ≤ 122
theorem sz_le {n : Nat} (h : n ≤ 100000) : n ≤ sizeLine := Nat.le_trans h (by decide)
theorem sz_lt {n : Nat} (h : n ≤ 100000) : n < sizeLine := Nat.lt_of_le_of_lt h (by decide)
theorem atI_in {α : Type} {xs : List α} {i : Int} (h0 : 0 ≤ i) (h1 : i < xs.length) : ∃ v, atI xs i = some v ∧ v ∈ xs := by
  have e : i = ((i.toNat : Nat) : Int) := by omega
  have l : i.toNat < xs.length := by omega
  refine ⟨xs[i.toNat], ?_, List.getElem_mem l⟩
  have q := atI_nat (List.getElem?_eq_getElem l)
  rwa [← e] at q
theorem S_of (z : Str) : ∃ l, z = S l := ⟨z.cps.toList, (SX.S_tl z).symm⟩
theorem join_none : ∀ ys : List (List Nat), TL.joinL [] ys = ys.flatten
  | [] => rfl
  | [x] => by simp [TL.joinL]
  | x :: y :: r => by
    have ih := join_none (y :: r)
    show x ++ ([] ++ TL.joinL [] (y :: r)) = x ++ (y :: r).flatten
    rw [ih]
    rfl
theorem flat_one (cs : List Nat) : (cs.map fun c => [c]).flatten = cs := by
  induction cs with
  | nil => rfl
  | cons c r ih => rw [List.map_cons, List.flatten_cons, ih]; rfl
theorem one_sum' (cs : List Nat) : ((cs.map fun c => S [c]).map (·.length)).sum = cs.length := by
  induction cs with
  | nil => rfl
  | cons c r ih =>
    rw [List.map_cons, List.map_cons, List.sum_cons, ih, List.length_cons, SX.S_len]
    show 1 + r.length = r.length + 1
    omega
theorem bt_min : bootBuiltins ("min" : Str) = some (.builtin "min") := by decide +kernel
theorem same_new {H H1 : Hp} {p : Addr} {o : HO} (a : Same H H1) (n : H1 p = none) : Same H (upd H1 p o) := fun x u h => by
  rw [upd_ne (ne_of_none (a x u h) n)]
  exact a x u h
theorem same_put {H H1 : Hp} {p : Addr} {o : HO} (a : Same H H1) (n : H p = none) : Same H (upd H1 p o) := fun x u h => by
  rw [upd_ne (ne_of_none h n)]
  exact a x u h
end Far

namespace Far
open PySem PySem.Spec PyProof.Rows L2
open C8 (pss_cut tCut)
open SX (S)
theorem bt_abs : bootBuiltins ("abs" : Str) = some (.builtin "abs") := by decide +kernel
structure TxtG (mg : Str → Option Value) : Prop where
  len : mg "len" = none
  max : mg "max" = none
  min : mg "min" = none
  int : mg "int" = none
  range : mg "range" = none
  list : mg "list" = none
  tuple : mg "tuple" = none
  abs : mg "abs" = none
/-- the deck at d, drawn from n times at most -/
def SeedAt (H : Hp) (d : Addr) (n : Nat) : Prop := ∃ a m k : Int, H d = some (.lst [.int a, .int m, .int k]) ∧ 0 ≤ a ∧ 0 ≤ k ∧ k ≤ n ∧ 0 ≤ m ∧ m < 1999999871
theorem SeedAt.new {H : Hp} {d p : Addr} {o : HO} {n : Nat} (h : SeedAt H d n) (np : H p = none) : SeedAt (upd H p o) d n := by
  obtain ⟨a, f, k, h1, h2⟩ := h
  exact ⟨a, f, k, by rw [upd_ne (ne_of_none h1 np)]; exact h1, h2⟩
theorem SeedAt.put {H : Hp} {d p : Addr} {o : HO} {n : Nat} (h : SeedAt H d n) (nd : p ≠ d) : SeedAt (upd H p o) d n := by
  obtain ⟨a, f, k, h1, h2⟩ := h
  exact ⟨a, f, k, by rw [upd_ne nd.symm]; exact h1, h2⟩
theorem SeedAt.nd {H : Hp} {d p : Addr} {n : Nat} (h : SeedAt H d n) (np : H p = none) : p ≠ d := fun e => by
  obtain ⟨a, f, k, h1, _⟩ := h
  rw [e, h1] at np
  cases np
theorem SeedAt.mono {H : Hp} {d : Addr} {n m : Nat} (h : SeedAt H d n) (l : n ≤ m) : SeedAt H d m := by
  obtain ⟨a, f, k, h1, h2, h3, h4, h5⟩ := h
  exact ⟨a, f, k, h1, h2, h3, by omega, h5⟩
theorem SeedAt.lst {H : Hp} {d : Addr} {n : Nat} (h : SeedAt H d n) : ∃ xs, H d = some (.lst xs) := by
  obtain ⟨_, _, _, h1, _⟩ := h
  exact ⟨_, h1⟩
theorem cut_all (xs : List V) (h : xs.length ≤ 63) : cutV xs none (some 63) = xs := by
  unfold cutV
  rw [HT.sIx_none, show HT.sIx xs.length xs.length (some 63) = min 63 xs.length from HT.sIx_nat _ _ 63, Nat.min_eq_right h, List.drop_zero, Nat.sub_zero]
  exact List.take_length
theorem grow_bits {g c : Int} {i : Nat} (hg : Builtin.Int.intBits g ≤ 1048576 + 206 * i) (hc : Builtin.Int.intBits c ≤ 1048576) : Builtin.Int.intBits (g * 2 ^ 205 + (if c < 0 then -c else c)) ≤ 1048576 + 206 * (i + 1) := by
  have h1 := PySem.intBits_le_iff.mp hg
  have h2 := PySem.intBits_le_iff.mp hc
  refine PySem.intBits_le_iff.mpr ?_
  have e : (if c < 0 then -c else c).natAbs = c.natAbs := by split <;> omega
  have a1 : (g * 2 ^ 205 + (if c < 0 then -c else c)).natAbs ≤ (g * 2 ^ 205).natAbs + c.natAbs := by
    rw [← e]
    exact Int.natAbs_add_le _ _
  have a2 : (g * 2 ^ 205 : Int).natAbs = g.natAbs * 2 ^ 205 := by rw [Int.natAbs_mul]; rfl
  rw [a2] at a1
  have a3 : 1048576 + 206 * (i + 1) = (1048576 + 206 * i) + 206 := by omega
  rw [a3, Nat.pow_add]
  have a4 : (2 : Nat) ^ 1048576 ≤ 2 ^ (1048576 + 206 * i) := Nat.pow_le_pow_right (by decide) (by omega)
  have a5 : (2 : Nat) ^ 206 = 2 ^ 205 * 2 := rfl
  generalize (2 : Nat) ^ (1048576 + 206 * i) = k at *
  have a6 : g.natAbs * 2 ^ 205 ≤ (k - 1) * 2 ^ 205 := Nat.mul_le_mul_right _ (by omega)
  have a7 : (k - 1) * 2 ^ 205 + k ≤ k * 2 ^ 206 := by
    have k0 : 0 < k := by omega
    obtain ⟨j, rfl⟩ : ∃ j, k = j + 1 := ⟨k - 1, by omega⟩
    rw [Nat.add_sub_cancel, a5]
    generalize (2 : Nat) ^ 205 = m at *
    have m0 : 1 ≤ m := by
      rcases Nat.eq_zero_or_pos m with z | z
      · rw [z] at a5
        exact absurd a5 (by decide)
      · exact z
    have : (j + 1) * (m * 2) = j * m + (j * m + 2 * m) := by
      rw [Nat.add_mul, Nat.mul_comm m 2, ← Nat.mul_assoc, Nat.mul_comm j 2, Nat.mul_assoc]
      omega
    rw [this]
    have : j ≤ j * m := Nat.le_mul_of_pos_right _ m0
    omega
  omega
abbrev s_law_deck : Stmt := topS 55
abbrev N_law_deck : List Str := ["script", "great", "mixed", "cell"]
theorem sc_law_deck : FnScope N_law_deck ["script"] (defScope s_law_deck) := ⟨rfl, rfl, rfl, by decide +kernel, rfl, by decide +kernel, by decide +kernel⟩
section
variable {P : Program} {w : World} {K : PySem.W.Frag} {mg : Str → Option Value} {base : Heap}
def spDeck (K : PySem.W.Frag) : Sp := fun vs H Q _ => ∃ (a : Addr) (ns : List Int), vs = [.ref a] ∧ SqL K H a (ns.map V.int) ∧ ns.length ≤ 63 ∧ (∀ z ∈ ns, Builtin.Int.intBits z ≤ 1048576) ∧ ∀ (H' : Hp) (d : Addr), Same H H' → H d = none → SeedAt H' d 0 → Q (.ref d) H'
theorem ok_deck {f : Addr} {fd : FuncData} (F : Fun K "_law_deck" "_law_deck" s_law_deck f fd) (T : TxtG mg) : FnOk P w K mg base CX0 1 f fd ["script"] (spDeck K) := by
  refine F.ok sc_law_deck (fun vs H Q E h => ?_) (fun cdv A outer s H vs Q E hr h => ?_)
  · obtain ⟨a, ns, rfl, _⟩ := h
    rfl
  · obtain ⟨a, ns, rfl, hS, hl, hb, q⟩ := h
    refine ⟨_, (pss_cons (ps_set (i := 1) sc_law_deck.nd rfl (.inl rfl) pe_int)
      (pss_cons (ps_set (i := 2) sc_law_deck.nd rfl (.inl rfl) (pe_op op_add (pe_op op_mul pe_int (pe_callB call_len_seq (by rfl) T.len bt_len (pa_cons (pv 0) pa_nil))) pe_int))
      (pss_cut (ps_for PassesOwn.never rfl (pi_list (pe_slice sl_list (pv 0) po_none (po_some pe_int))) (pg_name (i := 3) sc_law_deck.nd rfl (.inl rfl))
        (pss_one (ps_if (pt_cmpR op_ge (pe_callB call_abs (by rfl) T.abs bt_abs (pa_cons (pv 3) pa_nil)) (pe_op op_pow pe_int pe_int) (nomark _))
          (pss_one (ps_set (i := 1) sc_law_deck.nd rfl (.inl rfl) (pe_op op_add (pe_op op_shlN (pv 1) pe_int) (pe_callB call_abs (by rfl) T.abs bt_abs (pa_cons (pv 3) pa_nil)))))
          (pss_one (ps_set (i := 2) sc_law_deck.nd rfl (.inl rfl) (pe_op op_mod (pe_op op_add (pe_op op_mul (pv 2) pe_int) (pv 3)) pe_int))))))
      (pss_one (ps_ret (pe_lst (pa_cons (pv 1) (pa_cons (pv 2) (pa_cons pe_int pa_nil))))))))), ?_⟩
    have hl' : (ns.map V.int).length ≤ 63 := by rw [List.length_map]; exact hl
    refine ⟨_, rfl, a, _, rfl, .inl hS, _, _, rfl, rfl, .inl ⟨by omega, by omega⟩, _, _, rfl, rfl, ?_⟩
    refine ⟨fun σ' H' => ∃ (g m : Int) (x3 : Option V), σ' = [some (.ref a), some (.int g), some (.int m), x3] ∧ Same H H' ∧ 0 ≤ g ∧ 0 ≤ m ∧ m < 1999999871, ?_, fun σ' H' hM => ?_⟩
    · refine ⟨_, rfl, 63, rfl, a, _, rfl, hS, fun c nc => ?_⟩
      rw [cut_all _ hl']
      have S1 := same_new (o := .lst (ns.map V.int)) (Same.refl H) nc
      have hc : (upd H c (.lst (ns.map V.int))) c = some (.lst (ns.map V.int)) := upd_same
      generalize upd H c (.lst (ns.map V.int)) = H1 at S1 hc
      refine ⟨c, rfl, ⟨_, SqL.of hc⟩, for_list (K := K) (a := c) (xs := ns.map V.int) (fun i σ' H' => ∃ (g m : Int) (x3 : Option V), σ' = [some (.ref a), some (.int g), some (.int m), x3] ∧ H' = H1 ∧ 0 ≤ g ∧ Builtin.Int.intBits g ≤ 1048576 + 206 * i ∧ i ≤ 63 ∧ 0 ≤ m ∧ m < 1999999871) ⟨_, _, _, rfl, rfl, by omega, by decide, by omega, by omega, by omega⟩ (fun i σ' H' _ hP => ?_) (fun i v σ' H' hi hP => ?_) (fun σ' H' hP => ?_)⟩
      · obtain ⟨_, _, _, _, rfl, _⟩ := hP
        exact SqL.of hc
      · obtain ⟨g, m, x3, rfl, rfl, g0, gb, i63, m0, m1⟩ := hP
        have il := (List.getElem?_eq_some_iff.mp hi).1
        rw [List.getElem?_map] at hi
        cases e : ns[i]? with
        | none =>
          rw [e] at hi
          cases hi
        | some z =>
          rw [e] at hi
          have ev : v = .int z := (Option.some.inj hi).symm
          subst ev
          have zb := hb z (List.mem_of_getElem? e)
          refine ⟨_, rfl, z, rfl, _, _, rfl, rfl, ⟨by decide, by decide, by decide⟩, _, _, rfl, rfl, _, rfl, ?_⟩
          refine ite2 (fun e1 => ?_) (fun e1 => ?_)
          · refine ⟨_, rfl, g, 205, rfl, rfl, ⟨by decide, by omega⟩, _, rfl, z, rfl, _, _, rfl, rfl, ?_⟩
            refine ⟨_, _, _, rfl, rfl, ?_, grow_bits gb zb, by omega, m0, m1⟩
            have : 0 ≤ g * 2 ^ 205 := Int.mul_nonneg g0 (by decide)
            split <;> omega
          · refine ⟨_, rfl, _, _, rfl, rfl, .inl ⟨by omega, by omega⟩, _, rfl, _, _, rfl, rfl, _, _, rfl, rfl, (by show (0 : Int) < _; decide), ?_⟩
            exact ⟨_, _, _, rfl, rfl, g0, by omega, by omega, Int.emod_nonneg _ (by decide), Int.emod_lt_of_pos _ (by decide)⟩
      · obtain ⟨g, m, x3, rfl, rfl, g0, gb, i63, m0, m1⟩ := hP
        exact ⟨_, _, _, rfl, S1, g0, m0, m1⟩
    · obtain ⟨g, m, x3, rfl, S1, g0, m0, m1⟩ := hM
      refine ⟨_, rfl, _, rfl, (by show 3 ≤ sizeLine; decide), fun d nd => ?_⟩
      exact q _ d (same_new S1 nd) (S1.free nd) ⟨g, m, 0, upd_same, g0, by omega, by omega, m0, m1⟩
end
abbrev s_law_draw : Stmt := topS 56
abbrev N_law_draw : List Str := ["deck", "most", "found", "turn", "one"]
theorem sc_law_draw : FnScope N_law_draw ["deck", "most"] (defScope s_law_draw) := ⟨rfl, rfl, rfl, by decide +kernel, rfl, by decide +kernel, by decide +kernel⟩
section
variable {P : Program} {w : World} {K : PySem.W.Frag} {mg : Str → Option Value} {base : Heap}
def spDraw : Sp := fun vs H Q _ => ∃ (d : Addr) (n : Nat) (many : Int), vs = [.ref d, .int many] ∧ SeedAt H d n ∧ n < 100000 ∧ 0 < many ∧ many < 2 ^ 60 ∧ ∀ (H' : Hp) (r : Int), 0 ≤ r → r < many → SmX d H H' → SeedAt H' d (n + 1) → Q (.int r) H'
theorem ok_draw {f : Addr} {fd : FuncData} (F : Fun K "_law_draw" "_law_draw" s_law_draw f fd) (T : TxtG mg) : FnOk P w K mg base CX0 1 f fd ["deck", "most"] spDraw := by
  refine F.ok sc_law_draw (fun vs H Q E h => ?_) (fun cdv A outer s H vs Q E hr h => ?_)
  · obtain ⟨d, n, many, rfl, _⟩ := h
    rfl
  · obtain ⟨d, n, many, rfl, ⟨a, m, k, h1, a0, k0, k1, m0, m1⟩, hn, hm0, hm1, q⟩ := h
    refine ⟨_, (pss_cons (ps_asg (pe_op op_add (pe_ix ix_list (pv 0) pe_int (fun _ _ => rfl)) pe_int) (pg_sub (pv 0) pe_int set_list))
      (pss_cut (ps_if (pt_cmpR op_gt (pe_ix ix_list (pv 0) pe_int (fun _ _ => rfl)) pe_int (nomark _))
        (pss_cons (ps_set (i := 2) sc_law_draw.nd rfl (.inl rfl) (pe_op op_mod (pe_ix ix_list (pv 0) pe_int (fun _ _ => rfl)) (pv 1)))
        (pss_cons (ps_asg (pe_op op_fdivW (pe_ix ix_list (pv 0) pe_int (fun _ _ => rfl)) (pv 1)) (pg_sub (pv 0) pe_int set_list))
        (pss_one (ps_ret (pv 2)))))
        pss_nil)
      (pss_cons (ps_set (i := 3) sc_law_draw.nd rfl (.inl rfl) (pe_ix ix_list (pv 0) pe_int (fun _ _ => rfl)))
      (pss_cons (ps_set (i := 4) sc_law_draw.nd rfl (.inl rfl) (pe_op op_mod (pe_op op_add (pe_op op_add (pe_ix ix_list (pv 0) pe_int (fun _ _ => rfl)) (pe_op op_mul (pe_op op_mul pe_int (pv 3)) (pv 3))) (pe_op op_mul pe_int (pv 3))) pe_int))
      (pss_cons (ps_set (i := 4) sc_law_draw.nd rfl (.inl rfl) (pe_op op_mod (pe_op op_mul (pv 4) (pv 4)) pe_int))
      (pss_one (ps_ret (pe_op op_mod (pe_op op_fdiv (pe_op op_mod (pe_op op_add (pe_op op_mul (pv 4) pe_int) (pe_op op_mul (pv 3) pe_int)) pe_int) pe_int) (pv 1))))))))), ?_⟩
    refine ⟨_, rfl, d, _, 2, _, rfl, rfl, SqL.of h1, rfl, k, 1, rfl, rfl, ?_⟩
    refine ⟨_, rfl, d, _, 2, 2, rfl, rfl, h1, rfl, ?_⟩
    have h2 : (upd H d (.lst [.int a, .int m, .int (k + 1)])) d = some (.lst [.int a, .int m, .int (k + 1)]) := upd_same
    have S1 : SmX d H (upd H d (.lst [.int a, .int m, .int (k + 1)])) := (SmX.refl H).mut
    refine ⟨fun σ' H' => σ' = [some (.ref d), some (.int many), none, none, none] ∧ SmX d H H' ∧ H' d = some (.lst [.int a, .int m, .int (k + 1)]), ?_, fun σ' H1 hM => ?_⟩
    · refine ⟨_, rfl, d, _, 0, _, rfl, rfl, SqL.of h2, rfl, _, _, rfl, rfl, _, rfl, ?_⟩
      refine ite2 (fun e => ?_) (fun e => ⟨rfl, S1, h2⟩)
      refine ⟨_, rfl, d, _, 0, _, rfl, rfl, SqL.of h2, rfl, _, rfl, _, _, rfl, rfl, hm0, ?_⟩
      refine ⟨_, rfl, d, _, 0, _, rfl, rfl, SqL.of h2, rfl, _, rfl, _, _, rfl, rfl, wide_div (b := 60) hm0 (by omega) (by decide) (by decide), ?_⟩
      refine ⟨_, rfl, d, _, 0, 0, rfl, rfl, h2, rfl, ?_⟩
      refine ⟨_, rfl, ?_⟩
      exact q _ _ (Int.emod_nonneg _ (by omega)) (Int.emod_lt_of_pos _ hm0) S1.mut ⟨a / many, m, k + 1, upd_same, Int.ediv_nonneg a0 (by omega), by omega, by omega, m0, m1⟩
    · obtain ⟨rfl, SM, h3⟩ := hM
      refine ⟨_, rfl, d, _, 2, _, rfl, rfl, SqL.of h3, rfl, ?_⟩
      refine ⟨_, rfl, d, _, 1, _, rfl, rfl, SqL.of h3, rfl, _, rfl, _, _, rfl, rfl, .inl ⟨by omega, by omega⟩, _, rfl, _, _, rfl, rfl, .inr ⟨by omega, by omega⟩, _, _, rfl, rfl, _, rfl, _, _, rfl, rfl, .inl ⟨by omega, by omega⟩, _, _, rfl, rfl, _, _, rfl, rfl, (by show (0 : Int) < _; decide), ?_⟩
      generalize hx : (m + 70003 * (k + 1) * (k + 1) + 5003 * (k + 1)) % 2147483543 = x
      have x0 : 0 ≤ x := hx ▸ Int.emod_nonneg _ (by decide)
      have x1 : x < 2147483543 := hx ▸ Int.emod_lt_of_pos _ (by decide)
      refine ⟨_, rfl, _, rfl, _, _, rfl, rfl, .inl ⟨by omega, by omega⟩, _, _, rfl, rfl, (by show (0 : Int) < _; decide), ?_⟩
      generalize hy : x * x % 2147483497 = y
      have y0 : 0 ≤ y := hy ▸ Int.emod_nonneg _ (by decide)
      have y1 : y < 2147483497 := hy ▸ Int.emod_lt_of_pos _ (by decide)
      refine ⟨_, rfl, _, _, rfl, rfl, .inl ⟨by omega, by omega⟩, _, rfl, _, _, rfl, rfl, .inl ⟨by omega, by omega⟩, _, _, rfl, rfl, _, _, rfl, rfl, (by show (0 : Int) < _; decide), ?_⟩
      refine ⟨_, _, rfl, rfl, ⟨by decide, by decide⟩, _, rfl, _, _, rfl, rfl, hm0, ?_⟩
      exact q _ _ (Int.emod_nonneg _ (by omega)) (Int.emod_lt_of_pos _ hm0) SM ⟨a, m, k + 1, h3, a0, by omega, by omega, m0, m1⟩
end
end Far

namespace Far
open PySem PySem.Spec PyProof.Rows L2
/-! ### t[::-1], t a text -/
def revS (z : Str) : Str := ⟨z.cps.toList.reverse.toArray⟩
def tRevS (te : TE) : TE := fun σ H Q => te σ H fun x H1 => ∃ z, x = .str z ∧ z.length ≤ sizeLine ∧ Q (.str (revS z)) H1
theorem fm_congrS {α β : Type} {f g : α → Option β} : ∀ {l : List α}, (∀ x ∈ l, f x = g x) → l.filterMap f = l.filterMap g
  | [], _ => rfl
  | x :: r, h => by
    rw [List.filterMap_cons, List.filterMap_cons, h x (List.mem_cons_self ..), fm_congrS fun y hy => h y (List.mem_cons_of_mem _ hy)]
theorem back_allS {α : Type} : ∀ (l : List α), (List.range l.length).filterMap (fun m => l[l.length - 1 - m]?) = l.reverse := by
  intro l
  have h := PySem.W.krv_range l.length
  have e : (List.range l.length).filterMap (fun m => l[l.length - 1 - m]?) = ((List.range l.length).map fun k => l.length - 1 - k).filterMap (fun j => l[j]?) := by
    rw [List.filterMap_map]
    rfl
  rw [e, h, List.filterMap_reverse]
  congr 1
  have := PySem.W.krv_all l.toArray
  simpa using this
theorem revS_pick (z : Str) : (⟨((Builtin.Str.strSliceIndices none none (-1) z.length).filterMap (z.cps[·]?)).toArray⟩ : Str) = revS z := by
  unfold revS
  rw [picked_rev, List.filterMap_map, ← back_allS z.cps.toList]
  congr 2
  show _ = (List.range z.cps.toList.length).filterMap _
  rw [Array.length_toList]
  refine fm_congrS fun m hm => ?_
  rw [Array.getElem?_toList]
  rfl
theorem pe_revS {X : Cx} {e : Expr} {te : TE} {k : Nat} {p1 p2 p3 pos : Pos} (he : PE X e te) : PE X (.Subscript e (.Slice none none (some (.UnaryOp .USub (.Constant (.int 1) k p1) p2)) p3) pos) (tRevS te) := by
  refine ⟨fun pins s σ H Q I h => ?_⟩
  refine Subscript_ (thn (he.run pins s σ H _ I h) fun v s1 ⟨x, H1, I1, r1, q1⟩ => ?_)
  obtain ⟨z, ex, hz, q⟩ := q1
  subst ex
  obtain ⟨t, rfl⟩ := r1
  have hst : PO X (some (.UnaryOp .USub (.Constant (.int 1) k p1) p2)) (tPart (tUn (rU fun i => .int (-i)) (tC (.int 1)))) := po_some (pe_un un_neg pe_int)
  refine wpAny_Slice (thn (po_none.run pins s1 σ H1 (fun o H2 => o = none ∧ H2 = H1) I1 ⟨rfl, rfl⟩) fun vl s2 ⟨l, H2, I2, pl, el, e2⟩ => ?_)
  subst el e2
  refine thn (po_none.run pins s2 σ H2 (fun o H3 => o = none ∧ H3 = H2) I2 ⟨rfl, rfl⟩) fun vu s3 ⟨u, H3, I3, pu, eu, e3⟩ => ?_
  subst eu e3
  refine thn (hst.run pins s3 σ H3 (fun o H4 => o = some (-1) ∧ H4 = H3) I3 ⟨1, rfl, -1, rfl, rfl, rfl⟩) fun vs s4 ⟨o, H4, I4, ps, eo, e4⟩ => ?_
  subst eo e4
  have I5 : Inv X pins σ H4 { s4 with heap := s4.heap.push { cls := .type "slice", data := .fields #[vl, vu, vs] } } := I4.kept (t' := s4.toks) fun b ob q => Heap.get?_push_of_some _ q
  obtain ⟨l, rfl, hl⟩ := IsPart.raw pl
  obtain ⟨u, rfl, hu⟩ := IsPart.raw pu
  obtain ⟨y, rfl, hy⟩ := IsPart.raw ps
  show wpAny (model X.prog X.w) X.A (subscriptTail e (.Slice none none (some (.UnaryOp .USub (.Constant (.int 1) k p1) p2)) p3) (.str z t) (.ref s4.heap.objs.size)) (EP X pins σ Q) X.xe _
  refine tail_any (ops := [.str z t, .ref s4.heap.objs.size]) (typeIs_str _ _ _) (F.slot_str_getitem.lookup) ?_ (by with_unfolding_all rfl)
  have hl' : l = none := by cases l with
    | none => rfl
    | some _ => cases hl
  have hu' : u = none := by cases u with
    | none => rfl
    | some _ => cases hu
  obtain ⟨⟨y1, y2⟩, rfl⟩ : ∃ p, y = some p := by cases y with
    | none => cases hy
    | some p => exact ⟨p, rfl⟩
  have hy' : y1 = -1 := by
    have := Option.some.inj hy
    first | exact this | exact this.symm
  subst hl' hu' hy'
  refine wpAny_getItem_str_slice (l := none) (u := none) (st := some (-1, y2)) ⟨_, Heap.get?_push_size _ rfl, rfl, rfl⟩ rfl ?_
  show Made.post (if ((-1 : Int) == 1 && (Builtin.Str.strSliceIndices none none (-1) z.length).length == z.length) = true then Made.val (.str z t)
    else Made.str ⟨((Builtin.Str.strSliceIndices none none (-1) z.length).filterMap (z.cps[·]?)).toArray⟩) (EP X pins σ Q) _
  rw [if_neg (by simp), revS_pick]
  refine ⟨?_, .str _, H4, I5.tok _, ⟨_, rfl⟩, q⟩
  show z.cps.toList.reverse.toArray.size ≤ sizeLine
  rw [List.size_toArray, List.length_reverse, Array.length_toList]
  exact hz
end Far

namespace Far
open PySem PySem.Spec PyProof.Rows L2
open C8 (pss_cut tCut)
open SX (S)
/-! ### lists without an item twice -/
theorem nodup_sub_len {α : Type} [DecidableEq α] : ∀ (l m : List α), l.Nodup → (∀ x ∈ l, x ∈ m) → l.length ≤ m.length
  | [], _, _, _ => Nat.zero_le _
  | a :: r, m, h, hs => by
    obtain ⟨h1, h2⟩ := List.nodup_cons.mp h
    have ha : a ∈ m := hs a (List.mem_cons.mpr (.inl rfl))
    have ih := nodup_sub_len r (m.erase a) h2 fun x hx => by
      have ne : x ≠ a := fun e => h1 (e ▸ hx)
      exact (List.mem_erase_of_ne ne).mpr (hs x (List.mem_cons.mpr (.inr hx)))
    have hl := List.length_erase_of_mem ha
    have hp : 0 < m.length := List.length_pos_of_mem ha
    rw [List.length_cons]
    omega
theorem nd_snoc' {α : Type} {l : List α} {x : α} (h : l.Nodup) (hx : x ∉ l) : (l ++ [x]).Nodup := by
  rw [List.nodup_append]
  exact ⟨h, by simp, fun a ha b hb e => hx (by rw [← List.mem_singleton.mp hb, ← e]; exact ha)⟩

/-! ### texts as data -/
theorem strOk_S {l : List Nat} (h : NameOk l) : PyData.strOk (S l) = true := by
  show (l.toArray.all (· < 0x110000)) = true
  rw [← Array.all_toList, List.all_eq_true]
  intro c hc
  have := h.2.2 c hc
  exact decide_eq_true (by omega)
theorem inV_strs (l : List Nat) (ls : List (List Nat)) : inV (.str (S l)) ((ls.map S).map V.str) = decide (l ∈ ls) := by
  induction ls with
  | nil => rfl
  | cons a r ih =>
    show (S a == S l || inV (.str (S l)) ((r.map S).map V.str)) = _
    rw [ih, SX.S_beq_eq]
    by_cases e : a = l
    · subst e
      simp
    · have : l ≠ a := fun z => e z.symm
      simp [e, this]
theorem flat_strs (ls : List (List Nat)) : ((ls.map S).map V.str).all flatV = true := by
  induction ls with
  | nil => rfl
  | cons a r ih => exact ih
theorem strs_at {ls : List (List Nat)} {v : V} (h : v ∈ (ls.map S).map V.str) : ∃ l ∈ ls, v = .str (S l) := by
  obtain ⟨z, hz, rfl⟩ := List.mem_map.mp h
  obtain ⟨l, hl, rfl⟩ := List.mem_map.mp hz
  exact ⟨l, hl, rfl⟩
theorem dp_strs (K : PySem.W.Frag) (H : Hp) : ∀ ls : List (List Nat), DpAll K H ((ls.map S).map V.str) (ls.map fun l => PyData.str (S l))
  | [] => .nil
  | l :: r => .cons (.str _) (dp_strs K H r)
theorem lay_strs : ∀ {ls : List (List Nat)}, (∀ l ∈ ls, NameOk l) → PyData.canLayAll0 (ls.map fun l => PyData.str (S l)) = true
  | [], _ => rfl
  | l :: r, h => by
    show (PyData.strOk (S l) && PyData.canLayAll0 (r.map fun l => PyData.str (S l))) = true
    rw [strOk_S (h l (List.mem_cons.mpr (.inl rfl))), lay_strs fun x hx => h x (List.mem_cons.mpr (.inr hx))]
    rfl
theorem dep_strs : ∀ ls : List (List Nat), PyData.depthAll (ls.map fun l => PyData.str (S l)) = 0
  | [] => rfl
  | l :: r => by
    show max 0 (PyData.depthAll (r.map fun l => PyData.str (S l))) = 0
    rw [dep_strs r]
    rfl
theorem shaped_strs {ls : List (List Nat)} (h : ∀ l ∈ ls, NameOk l) : SeqAt.shaped (.list (ls.map fun l => PyData.str (S l))) = true := by
  show (PyData.canLayAll0 (ls.map fun l => PyData.str (S l)) && decide (PyData.depthAll (ls.map fun l => PyData.str (S l)) + 1 ≤ 64)) = true
  rw [lay_strs h, dep_strs]
  rfl

/-! ### names made otherwise -/
abbrev abc : Str := "abcdefghijklmnopqrstuvwxyz"
theorem abc_at : ∀ k : _root_.Fin 26, atI abc.cps.toList ((k.val : Nat) : Int) = some (97 + k.val) := by decide +kernel
theorem abc_ok : ∀ c ∈ abc.cps.toList, 97 ≤ c ∧ c ≤ 122 := by decide +kernel
theorem abc_len : abc.cps.toList.length = 26 := by decide +kernel
def cand (j : Nat) : List Nat := [97 + j / 26] ++ [97 + j % 26]
theorem cand_inj {i j : Nat} (h : cand i = cand j) : i = j := by
  unfold cand at h
  simp at h
  omega
theorem cand_ok {j : Nat} (hj : j < 600) : NameOk (cand j) := by
  refine ⟨by simp [cand], by simp [cand], fun c hc => ?_⟩
  unfold cand at hc
  simp at hc
  omega
/-- of the names tried so far all but the last are found already -/
structure Tried (ls : List (List Nat)) (t : Nat) (l : List Nat) : Prop where
  ok : NameOk l
  last : t ≠ 0 → l = cand (t - 1)
  old : ∀ j, j + 1 < t → cand j ∈ ls
theorem Tried.lt {ls : List (List Nat)} {t : Nat} {l : List Nat} (h : Tried ls t l) (hl : l ∈ ls) : t ≤ ls.length := by
  have sub : ∀ x ∈ (List.range t).map cand, x ∈ ls := fun x hx => by
    obtain ⟨j, hj, rfl⟩ := List.mem_map.mp hx
    have hj := List.mem_range.mp hj
    by_cases e : j + 1 < t
    · exact h.old j e
    · have e2 : j = t - 1 := by omega
      rw [e2, ← h.last (by omega)]
      exact hl
  have nd : ((List.range t).map cand).Nodup := by
    rw [List.Nodup, List.pairwise_map]
    exact (List.nodup_range (n := t)).imp fun ne e => ne (cand_inj e)
  have := nodup_sub_len _ ls nd sub
  rw [List.length_map, List.length_range] at this
  exact this
theorem Tried.next {ls : List (List Nat)} {t : Nat} {l : List Nat} (h : Tried ls t l) (hl : l ∈ ls) (h30 : ls.length < 100) : Tried ls (t + 1) (cand t) := by
  have hlt := h.lt hl
  refine ⟨cand_ok (by omega), fun _ => rfl, fun j hj => ?_⟩
  by_cases e : j + 1 < t
  · exact h.old j e
  · have e2 : j = t - 1 := by omega
    rw [e2, ← h.last (by omega)]
    exact hl
theorem revS_S (l : List Nat) : revS (S l) = S l.reverse := by
  show (⟨(l.toArray.toList.reverse).toArray⟩ : Str) = _
  rw [List.toList_toArray]
def NamesAt (H : Hp) (p : Addr) (ls : List (List Nat)) : Prop := H p = some (.lst ((ls.map S).map V.str))
end Far

namespace Far
open PySem PySem.Spec PyProof.Rows L2
/-! ### xs[::e], xs a list, e tells 1 or -1 -/
def tStepL (K : PySem.W.Frag) (te ts : TE) : TE := fun σ H Q => te σ H fun x H1 => tPart ts σ H1 fun o H2 => ∃ a xs i, x = .ref a ∧ o = some i ∧ (i = 1 ∨ i = -1) ∧ SqL K H2 a xs ∧ ∀ p, H2 p = none → Q (.ref p) (upd H2 p (.lst (if i = 1 then xs else xs.reverse)))
theorem range_some {α : Type} : ∀ (l : List α), (List.range l.length).filterMap (fun m => l[m]?) = l
  | [] => rfl
  | a :: r => by
    rw [List.length_cons, List.range_succ_eq_map, List.filterMap_cons]
    show a :: ((List.range r.length).map Nat.succ).filterMap _ = _
    rw [List.filterMap_map]
    congr 1
    exact range_some r
theorem pick_one (items : Array Value) : slicePick items none none (some 1) = items := by
  have h := slicePick_cut items.toList none none
  have e : slicePick items none none (some 1) = slicePick items none none none := by rfl
  rw [e]
  rw [Array.toArray_toList] at h
  rw [h]
  have e1 : HT.sIx items.toList.length items.toList.length none = items.toList.length := rfl
  have e2 : HT.sIx items.toList.length 0 none = 0 := rfl
  rw [e1, e2, List.drop_zero, Nat.sub_zero, List.take_length, Array.toArray_toList]
theorem pe_stepL {X : Cx} {e st : Expr} {te ts : TE} {p3 pos : Pos} (he : PE X e te) (hs : PE X st ts) : PE X (.Subscript e (.Slice none none (some st) p3) pos) (tStepL X.K te ts) := by
  refine ⟨fun pins s σ H Q I h => ?_⟩
  refine Subscript_ (thn (he.run pins s σ H _ I h) fun v s1 ⟨x, H1, I1, r1, q1⟩ => ?_)
  have hst : PO X (some st) (tPart ts) := po_some hs
  refine wpAny_Slice (thn (po_none.run pins s1 σ H1 (fun o H2 => o = none ∧ H2 = H1) I1 ⟨rfl, rfl⟩) fun vl s2 ⟨l, H2, I2, pl, el, e2⟩ => ?_)
  subst el e2
  refine thn (po_none.run pins s2 σ H2 (fun o H3 => o = none ∧ H3 = H2) I2 ⟨rfl, rfl⟩) fun vu s3 ⟨u, H3, I3, pu, eu, e3⟩ => ?_
  subst eu e3
  refine thn (hst.run pins s3 σ H3 _ I3 q1) fun vs s4 ⟨o, H4, I4, ps, q2⟩ => ?_
  obtain ⟨a, xs, i, ex, eo, hi, hx, q⟩ := q2
  subst ex eo
  cases r1
  have I5 : Inv X pins σ H4 { s4 with heap := s4.heap.push { cls := .type "slice", data := .fields #[vl, vu, vs] } } := I4.kept (t' := s4.toks) fun b ob q => Heap.get?_push_of_some _ q
  obtain ⟨its, r, ht, hz⟩ := I5.list hx
  have hlen := r.length
  show wpAny (model X.prog X.w) X.A (subscriptTail e (.Slice none none (some st) p3) (.ref a) (.ref s4.heap.objs.size)) (EP X pins σ Q) X.xe { s4 with heap := s4.heap.push { cls := .type "slice", data := .fields #[vl, vu, vs] } }
  refine tail_any (ops := [.ref a, .ref s4.heap.objs.size]) ht.isList.typeIs (PySem.slot_list_getitem.lookup) ?_ (by with_unfolding_all rfl)
  refine wpAny_getItem_list_slice ht.isList (Heap.IsSliceOf.new _ vl vu vs) pl pu ps (by rcases hi with z | z <;> rw [z] <;> decide) ?_ (by rw [List.size_toArray]; omega)
  have q := q _ (I5.hok.fresh (Nat.le_refl _))
  rcases hi with z | z
  · subst z
    rw [if_pos rfl] at q
    rw [pick_one]
    refine ⟨.ref _, _, I5.laid (t' := s4.toks) (o := .lst xs) (fun b ob q => Heap.get?_push_of_some _ q) (Nat.le_refl _) ?_, rfl, q⟩
    exact ⟨hz, _, 0, r, Heap.get?_push_size _ rfl⟩
  · subst z
    rw [if_neg (by decide)] at q
    rw [PySem.W.krv_pick]
    refine ⟨.ref _, _, I5.laid (t' := s4.toks) (o := .lst xs.reverse) (fun b ob q => Heap.get?_push_of_some _ q) (Nat.le_refl _) ?_, rfl, q⟩
    exact ⟨by rw [List.length_reverse]; exact hz, _, 0, r.reverse, Heap.get?_push_size _ rfl⟩
end Far

namespace Far
open PySem PySem.Spec PyProof.Rows L2
open SX (S)
abbrev Nm := List Nat
abbrev Tie := Nm × Nm × Int
/-- places in an order in which each has one tie to those ahead; the ties in that order -/
inductive Grown : List Nm → List Tie → Prop
  | one (a : Nm) : Grown [a] []
  | leaf {os : List Nm} {es : List Tie} {a b : Nm} {k : Int} {e : Tie} : Grown os es → a ∈ os → b ∉ os → e = (a, b, k) ∨ e = (b, a, k) → 1 ≤ k → k ≤ 1000000 → Grown (os ++ [b]) (es ++ [e])
def IsTree (pl : List Nm) (ts : List Tie) : Prop := ∃ os es, Grown os es ∧ pl.Perm os ∧ ts.Perm es
theorem Grown.nodup {os : List Nm} {es : List Tie} (h : Grown os es) : os.Nodup := by
  induction h with
  | one a => simp
  | leaf _ _ hb _ _ _ ih => exact nd_snoc' ih hb
theorem Grown.len {os : List Nm} {es : List Tie} (h : Grown os es) : os.length = es.length + 1 := by
  induction h with
  | one a => rfl
  | leaf _ _ _ _ _ _ ih => rw [List.length_append, List.length_append, ih]; rfl
theorem Grown.ties {os : List Nm} {es : List Tie} (h : Grown os es) : ∀ e ∈ es, e.1 ∈ os ∧ e.2.1 ∈ os ∧ 1 ≤ e.2.2 ∧ e.2.2 ≤ 1000000 := by
  induction h with
  | one a => simp
  | leaf h1 ha hb he k1 k2 ih =>
    intro e hm
    rcases List.mem_append.mp hm with z | z
    · obtain ⟨a1, a2, a3⟩ := ih e z
      exact ⟨List.mem_append_left _ a1, List.mem_append_left _ a2, a3⟩
    · rw [List.mem_singleton.mp z]
      rcases he with e | e <;> rw [e] <;> simp [ha, k1, k2]
theorem IsTree.nodup {pl : List Nm} {ts : List Tie} (h : IsTree pl ts) : pl.Nodup := by
  obtain ⟨os, es, g, p, _⟩ := h
  exact p.nodup_iff.mpr g.nodup
theorem IsTree.len {pl : List Nm} {ts : List Tie} (h : IsTree pl ts) : pl.length = ts.length + 1 := by
  obtain ⟨os, es, g, p, q⟩ := h
  rw [p.length_eq, q.length_eq]
  exact g.len
theorem IsTree.ties {pl : List Nm} {ts : List Tie} (h : IsTree pl ts) : ∀ e ∈ ts, e.1 ∈ pl ∧ e.2.1 ∈ pl ∧ 1 ≤ e.2.2 ∧ e.2.2 ≤ 1000000 := by
  obtain ⟨os, es, g, p, q⟩ := h
  intro e he
  obtain ⟨a, b, c⟩ := g.ties e (q.mem_iff.mp he)
  exact ⟨p.mem_iff.mpr a, p.mem_iff.mpr b, c⟩

/-! ### as data -/
def tieD (t : Tie) : PyData := .tuple [.str (S t.1), .str (S t.2.1), .int t.2.2]
def strD (l : Nm) : PyData := .str (S l)
def treeD (pl : List Nm) (ts : List Tie) : PyData := .tuple [.tuple (pl.map strD), .tuple (ts.map tieD)]
/-- tuples stand as they stood -/
structure TK (H H' : Hp) : Prop where
  tup : ∀ b xs, H b = some (.tup xs) → H' b = some (.tup xs)
  frz : ∀ b o xs, H b = some (.frz o (.tup xs)) → H' b = some (.frz o (.tup xs))
theorem TK.refl (H : Hp) : TK H H := ⟨fun _ _ h => h, fun _ _ _ h => h⟩
theorem TK.trans {H H1 H2 : Hp} (a : TK H H1) (b : TK H1 H2) : TK H H2 := ⟨fun x o h => b.tup x o (a.tup x o h), fun x o u h => b.frz x o u (a.frz x o u h)⟩
theorem TK.of {H H' : Hp} (a : Same H H') : TK H H' := ⟨fun x _ h => a x _ h, fun x _ _ h => a x _ h⟩
theorem TK.new {H : Hp} {p : Addr} {o : HO} (n : H p = none) : TK H (upd H p o) :=
  ⟨fun b xs h => by rw [upd_ne (ne_of_none h n)]; exact h, fun b u xs h => by rw [upd_ne (ne_of_none h n)]; exact h⟩
theorem TK.mut {H : Hp} {p : Addr} {o : HO} {xs : List V} (n : H p = some (.lst xs)) : TK H (upd H p o) :=
  ⟨fun b ys h => by rw [upd_ne (ne_of h n (by intro z; cases z))]; exact h, fun b u ys h => by rw [upd_ne (ne_of h n (by intro z; cases z))]; exact h⟩
theorem SmX.tk {d : Addr} {H H' : Hp} {xs : List V} (s : SmX d H H') (n : H d = some (.lst xs)) : TK H H' :=
  ⟨fun b ys h => s b _ (ne_of h n (by intro z; cases z)) h, fun b u ys h => s b _ (ne_of h n (by intro z; cases z)) h⟩
theorem DeckAt.lst {H : Hp} {d c : Addr} {n : Nat} (h : DeckAt H d c n) : ∃ xs, H d = some (.lst xs) := by
  obtain ⟨_, _, _, _, _, h1, _⟩ := h
  exact ⟨_, h1⟩
theorem DeckAt.tk {H H' : Hp} {d c : Addr} {n : Nat} (h : DeckAt H d c n) (s : SmX d H H') : TK H H' := by
  obtain ⟨xs, e⟩ := h.lst
  exact s.tk e
mutual
/-- a value that never changes: none, truths, numbers, texts, tuples of such -/
inductive Dt (H : Hp) : V → PyData → Prop
  | non : Dt H .non .none
  | bl (b : Bool) : Dt H (.bl b) (.bool b)
  | int (i : Int) : Dt H (.int i) (.int i)
  | str (x : Str) : Dt H (.str x) (.str x)
  | tup {a : Addr} {xs : List V} {ds : List PyData} : H a = some (.tup xs) → DtAll H xs ds → Dt H (.ref a) (.tuple ds)
  /-- a tuple of texts that is known to have no dict of its own -/
  | tupZ {a : Addr} {pl : List Nm} {ds : List PyData} {o : Obj} : ds = pl.map strD → pl ≠ [] → o.dict = none → H a = some (.frz o (.tup ((pl.map S).map V.str))) → Dt H (.ref a) (.tuple ds)
inductive DtAll (H : Hp) : List V → List PyData → Prop
  | nil : DtAll H [] []
  | cons {v : V} {vs : List V} {d : PyData} {ds : List PyData} : Dt H v d → DtAll H vs ds → DtAll H (v :: vs) (d :: ds)
end
mutual
theorem Dt.keep {H H' : Hp} (t : TK H H') : ∀ {v : V} {d : PyData}, Dt H v d → Dt H' v d
  | _, _, .non => .non
  | _, _, .bl b => .bl b
  | _, _, .int i => .int i
  | _, _, .str x => .str x
  | _, _, .tup a b => .tup (t.tup _ _ a) (DtAll.keep t b)
  | _, _, .tupZ e n d a => .tupZ e n d (t.frz _ _ _ a)
theorem DtAll.keep {H H' : Hp} (t : TK H H') : ∀ {vs : List V} {ds : List PyData}, DtAll H vs ds → DtAll H' vs ds
  | _, _, .nil => .nil
  | _, _, .cons a b => .cons (Dt.keep t a) (DtAll.keep t b)
end
theorem dpa_strs {K : PySem.W.Frag} (H : Hp) : ∀ ls : List Nm, DpAll K H ((ls.map S).map V.str) (ls.map strD)
  | [] => .nil
  | _ :: r => .cons (.str _) (dpa_strs H r)
mutual
theorem Dt.dp {K : PySem.W.Frag} {H : Hp} : ∀ {v : V} {d : PyData}, Dt H v d → Dp K H v d
  | _, _, .non => .non
  | _, _, .bl b => .bl b
  | _, _, .int i => .int i
  | _, _, .str x => .str x
  | _, _, .tup a b => .tup (.inl (.inl a)) (DtAll.dp b)
  | _, _, .tupZ (pl := pl) (o := o) e _ _ a => e ▸ .tup (.inl (.inr ⟨o, a⟩)) (dpa_strs H pl)
theorem DtAll.dp {K : PySem.W.Frag} {H : Hp} : ∀ {vs : List V} {ds : List PyData}, DtAll H vs ds → DpAll K H vs ds
  | _, _, .nil => .nil
  | _, _, .cons a b => .cons (Dt.dp a) (DtAll.dp b)
end
theorem DtAll.len {H : Hp} : ∀ {vs : List V} {ds : List PyData}, DtAll H vs ds → vs.length = ds.length
  | _, _, .nil => rfl
  | _, _, .cons _ t => congrArg (· + 1) (DtAll.len t)
theorem DtAll.app {H : Hp} : ∀ {vs ws : List V} {ds es : List PyData}, DtAll H vs ds → DtAll H ws es → DtAll H (vs ++ ws) (ds ++ es)
  | _, _, _, _, .nil, h => h
  | _, _, _, _, .cons a t, h => .cons a (DtAll.app t h)
theorem DtAll.get {H : Hp} : ∀ {vs : List V} {ds : List PyData} {i : Nat} {v : V}, DtAll H vs ds → vs[i]? = some v → ∃ d, ds[i]? = some d ∧ Dt H v d
  | _, _, _, _, .nil, e => by simp at e
  | _, _, 0, _, .cons a _, e => by
    simp at e
    subst e
    exact ⟨_, rfl, a⟩
  | _, _, i + 1, _, .cons _ t, e => by
    obtain ⟨d, h1, h2⟩ := DtAll.get (i := i) t (by simpa using e)
    exact ⟨d, by simpa using h1, h2⟩
theorem DtAll.del {H : Hp} : ∀ {vs : List V} {ds : List PyData} (i : Nat), DtAll H vs ds → DtAll H (vs.eraseIdx i) (ds.eraseIdx i)
  | _, _, _, .nil => .nil
  | _, _, 0, .cons _ t => t
  | _, _, i + 1, .cons a t => .cons a (DtAll.del i t)
theorem DtAll.strs {H : Hp} : ∀ {ls : List Nm} {vs : List V}, DtAll H vs (ls.map strD) → vs = (ls.map S).map V.str
  | [], _, .nil => rfl
  | l :: r, _, .cons (.str _) t => by
    rw [DtAll.strs (ls := r) t]
    rfl
theorem dt_strs (H : Hp) : ∀ ls : List Nm, DtAll H ((ls.map S).map V.str) (ls.map strD)
  | [] => .nil
  | _ :: r => .cons (.str _) (dt_strs H r)
theorem perm_erase {α : Type} : ∀ {l : List α} {k : Nat} {x : α}, l[k]? = some x → (x :: l.eraseIdx k).Perm l
  | [], _, _, e => by simp at e
  | a :: r, 0, x, e => by
    simp at e
    subst e
    exact .refl _
  | a :: r, k + 1, x, e => by
    have ih := perm_erase (l := r) (k := k) (x := x) (by simpa using e)
    show (x :: a :: r.eraseIdx k).Perm (a :: r)
    exact (List.Perm.swap a x _).trans (ih.cons a)
theorem perm_pick {α : Type} {l1 l2 m : List α} {x : α} {k : Nat} (h : (l1 ++ l2).Perm m) (e : l2[k]? = some x) : ((l1 ++ [x]) ++ l2.eraseIdx k).Perm m := by
  rw [List.append_assoc]
  exact ((List.Perm.refl l1).append (perm_erase e)).trans h
theorem map_erase {α β : Type} (f : α → β) : ∀ (l : List α) (k : Nat), (l.map f).eraseIdx k = (l.eraseIdx k).map f
  | [], _ => rfl
  | _ :: _, 0 => rfl
  | a :: r, k + 1 => congrArg (f a :: ·) (map_erase f r k)
/-- a tuple of texts: of this heap, or one known through and through -/
def TupAt (H : Hp) (a : Addr) (xs : List V) : Prop := H a = some (.tup xs) ∨ ∃ o : Obj, o.dict = none ∧ H a = some (.frz o (.tup xs))
theorem TupAt.sq {K : PySem.W.Frag} {H : Hp} {a : Addr} {xs : List V} (h : TupAt H a xs) : SqT K H a xs := h.elim (fun h => .inl (.inl h)) fun ⟨o, _, h⟩ => .inl (.inr ⟨o, h⟩)
theorem TupAt.ne {H : Hp} {a p : Addr} {xs : List V} (h : TupAt H a xs) (n : H p = none) : a ≠ p := h.elim (fun h => ne_of_none h n) fun ⟨_, _, h⟩ => ne_of_none h n
theorem TupAt.same {H H' : Hp} {a : Addr} {xs : List V} (h : TupAt H a xs) (s : Same H H') : TupAt H' a xs := h.elim (fun h => .inl (s _ _ h)) fun ⟨o, d, h⟩ => .inr ⟨o, d, s _ _ h⟩
theorem TupAt.upd {H : Hp} {a p : Addr} {xs : List V} {o : HO} (h : TupAt H a xs) (n : H p = none) : TupAt (L2.upd H p o) a xs := h.elim (fun q => .inl (by rw [upd_ne (ne_of_none q n)]; exact q)) fun ⟨u, d, q⟩ => .inr ⟨u, d, by rw [upd_ne (ne_of_none q n)]; exact q⟩
theorem TupAt.updN {H : Hp} {a p : Addr} {xs : List V} {o : HO} (h : TupAt H a xs) (n : a ≠ p) : TupAt (L2.upd H p o) a xs := h.elim (fun q => .inl (by rw [upd_ne n]; exact q)) fun ⟨u, d, q⟩ => .inr ⟨u, d, by rw [upd_ne n]; exact q⟩
end Far

namespace Far
open PySem
open SX (S)
/-! ### ways in a tree -/
def Adj (ts : List Tie) (u v : Nm) (k : Int) : Prop := (u, v, k) ∈ ts ∨ (v, u, k) ∈ ts
theorem Adj.symm {ts : List Tie} {u v : Nm} {k : Int} (h : Adj ts u v k) : Adj ts v u k := h.elim .inr .inl
theorem Adj.perm {ts ts' : List Tie} {u v : Nm} {k : Int} (p : ts.Perm ts') (h : Adj ts u v k) : Adj ts' u v k := h.elim (fun h => .inl (p.mem_iff.mp h)) fun h => .inr (p.mem_iff.mp h)
/-- from u to v, no place twice: the places, the length -/
inductive Way (ts : List Tie) (u : Nm) : Nm → List Nm → Int → Prop
  | nil : Way ts u u [u] 0
  | snoc {v w : Nm} {p : List Nm} {L k : Int} : Way ts u v p L → Adj ts v w k → w ∉ p → Way ts u w (p ++ [w]) (L + k)
theorem Way.perm {ts ts' : List Tie} (q : ts.Perm ts') {u v : Nm} {p : List Nm} {L : Int} (h : Way ts u v p L) : Way ts' u v p L := by
  induction h with
  | nil => exact .nil
  | snoc _ ha hn ih => exact .snoc ih (ha.perm q) hn
theorem Way.last {ts : List Tie} {u v : Nm} {p : List Nm} {L : Int} (h : Way ts u v p L) : ∃ q, p = q ++ [v] := by
  cases h with
  | nil => exact ⟨[], rfl⟩
  | snoc _ _ _ => exact ⟨_, rfl⟩
theorem Way.mem {ts : List Tie} {u v : Nm} {p : List Nm} {L : Int} (h : Way ts u v p L) : v ∈ p := by
  obtain ⟨q, rfl⟩ := h.last
  simp
theorem Way.first {ts : List Tie} {u v : Nm} {p : List Nm} {L : Int} (h : Way ts u v p L) : ∃ q, p = u :: q := by
  induction h with
  | nil => exact ⟨[], rfl⟩
  | snoc _ _ _ ih =>
    obtain ⟨q, rfl⟩ := ih
    exact ⟨q ++ [_], rfl⟩
theorem Way.nodup {ts : List Tie} {u v : Nm} {p : List Nm} {L : Int} (h : Way ts u v p L) : p.Nodup := by
  induction h with
  | nil => simp
  | snoc _ _ hn ih => exact nd_snoc' ih hn
theorem Way.inside {ts : List Tie} {pl : List Nm} (ht : ∀ e ∈ ts, e.1 ∈ pl ∧ e.2.1 ∈ pl) {u v : Nm} {p : List Nm} {L : Int} (h : Way ts u v p L) (hu : u ∈ pl) : ∀ x ∈ p, x ∈ pl := by
  induction h with
  | nil =>
    intro x hx
    rw [List.mem_singleton.mp hx]
    exact hu
  | snoc _ ha _ ih =>
    intro x hx
    rcases List.mem_append.mp hx with z | z
    · exact ih x z
    · rw [List.mem_singleton.mp z]
      rcases ha with h | h
      · exact (ht _ h).2
      · exact (ht _ h).1
/-- a place on the way is come to by a way of its own -/
theorem Way.upto {ts : List Tie} {u v x : Nm} {p : List Nm} {L : Int} (h : Way ts u v p L) (hx : x ∈ p) : ∃ q M, Way ts u x q M ∧ ∀ y ∈ q, y ∈ p := by
  induction h with
  | nil =>
    rw [List.mem_singleton.mp hx]
    exact ⟨_, _, .nil, fun _ h => h⟩
  | snoc h1 ha hn ih =>
    rcases List.mem_append.mp hx with z | z
    · obtain ⟨q, M, hq, hs⟩ := ih z
      exact ⟨q, M, hq, fun y hy => List.mem_append_left _ (hs y hy)⟩
    · rw [List.mem_singleton.mp z]
      exact ⟨_, _, .snoc h1 ha hn, fun _ h => h⟩
section leaf
variable {os : List Nm} {es : List Tie} {a b : Nm} {k : Int} {e0 : Tie}
theorem adj_new (hb : ∀ e ∈ es, e.1 ≠ b ∧ e.2.1 ≠ b) (ab : a ≠ b) (he : e0 = (a, b, k) ∨ e0 = (b, a, k)) {x y : Nm} {m : Int} (h : Adj (es ++ [e0]) x y m) :
    (Adj es x y m ∧ x ≠ b ∧ y ≠ b) ∨ (x = a ∧ y = b ∧ m = k) ∨ (x = b ∧ y = a ∧ m = k) := by
  rcases h with h | h <;> rcases List.mem_append.mp h with z | z
  · exact .inl ⟨.inl z, hb _ z⟩
  · have z := List.mem_singleton.mp z
    rcases he with e | e <;> rw [e] at z <;> cases z
    · exact .inr (.inl ⟨rfl, rfl, rfl⟩)
    · exact .inr (.inr ⟨rfl, rfl, rfl⟩)
  · exact .inl ⟨.inr z, (hb _ z).2, (hb _ z).1⟩
  · have z := List.mem_singleton.mp z
    rcases he with e | e <;> rw [e] at z <;> cases z
    · exact .inr (.inr ⟨rfl, rfl, rfl⟩)
    · exact .inr (.inl ⟨rfl, rfl, rfl⟩)
theorem way_old (hb : ∀ e ∈ es, e.1 ≠ b ∧ e.2.1 ≠ b) (ab : a ≠ b) (he : e0 = (a, b, k) ∨ e0 = (b, a, k)) {u v : Nm} {p : List Nm} {L : Int} (h : Way (es ++ [e0]) u v p L) (hu : u ≠ b) :
    (v ≠ b ∧ b ∉ p ∧ Way es u v p L) ∨ (v = b ∧ ∃ q M, p = q ++ [b] ∧ L = M + k ∧ Way es u a q M) := by
  induction h with
  | nil => exact .inl ⟨hu, fun z => hu (List.mem_singleton.mp z).symm, .nil⟩
  | @snoc v w p L m h1 ha hn ih =>
    rcases ih with ⟨hv, hbp, hw⟩ | ⟨hv, q, M, hp, _, hq⟩
    · rcases adj_new hb ab he ha with ⟨ha, _, wb⟩ | ⟨e1, e2, e3⟩ | ⟨e1, _, _⟩
      · refine .inl ⟨wb, fun z => ?_, .snoc hw ha hn⟩
        rcases List.mem_append.mp z with z | z
        · exact hbp z
        · exact wb (List.mem_singleton.mp z).symm
      · subst e1 e2 e3
        exact .inr ⟨rfl, p, L, rfl, rfl, hw⟩
      · exact absurd e1 hv
    · rcases adj_new hb ab he ha with ⟨_, vb, _⟩ | ⟨e1, _, _⟩ | ⟨_, e2, _⟩
      · exact absurd hv vb
      · exact absurd (e1.symm.trans hv) ab
      · refine absurd ?_ hn
        rw [e2, hp]
        exact List.mem_append_left _ hq.mem
theorem way_from (hb : ∀ e ∈ es, e.1 ≠ b ∧ e.2.1 ≠ b) (ab : a ≠ b) (he : e0 = (a, b, k) ∨ e0 = (b, a, k)) {v : Nm} {p : List Nm} {L : Int} (h : Way (es ++ [e0]) b v p L) :
    (v = b ∧ p = [b] ∧ L = 0) ∨ (v ≠ b ∧ ∃ q M, p = b :: q ∧ L = k + M ∧ Way es a v q M) := by
  induction h with
  | nil => exact .inl ⟨rfl, rfl, rfl⟩
  | @snoc v w p L m h1 ha hn ih =>
    rcases ih with ⟨hv, hp, hL⟩ | ⟨hv, q, M, hp, hL, hq⟩
    · rcases adj_new hb ab he ha with ⟨_, vb, _⟩ | ⟨e1, _, _⟩ | ⟨_, e2, e3⟩
      · exact absurd hv vb
      · exact absurd (e1.symm.trans hv) ab
      · subst e2 e3 hp hL
        exact .inr ⟨ab, [w], 0, rfl, by omega, .nil⟩
    · have wb : w ≠ b := fun z => hn (by rw [z, hp]; simp)
      rcases adj_new hb ab he ha with ⟨ha, _, _⟩ | ⟨_, e2, _⟩ | ⟨e1, _, _⟩
      · subst hp hL
        exact .inr ⟨wb, q ++ [w], M + m, rfl, by omega, .snoc hq ha fun z => hn (List.mem_cons.mpr (.inr z))⟩
      · exact absurd e2 wb
      · exact absurd e1 hv
end leaf
theorem Grown.one_way {os : List Nm} {es : List Tie} (g : Grown os es) : ∀ {u v : Nm} {p q : List Nm} {L M : Int}, Way es u v p L → Way es u v q M → p = q ∧ L = M := by
  induction g with
  | one a =>
    intro u v p q L M h1 h2
    cases h1 with
    | nil =>
      cases h2 with
      | nil => exact ⟨rfl, rfl⟩
      | snoc _ ha _ => rcases ha with h | h <;> cases h
    | snoc _ ha _ => rcases ha with h | h <;> cases h
  | @leaf os es a b k e0 g ha hbn he k1 k2 ih =>
    intro u v p q L M h1 h2
    have hb : ∀ e ∈ es, e.1 ≠ b ∧ e.2.1 ≠ b := fun e hm => by
      obtain ⟨i1, i2, _⟩ := g.ties e hm
      exact ⟨fun z => hbn (z ▸ i1), fun z => hbn (z ▸ i2)⟩
    have ab : a ≠ b := fun z => hbn (z ▸ ha)
    by_cases hu : u = b
    · subst hu
      rcases way_from hb ab he h1 with ⟨v1, p1, l1⟩ | ⟨v1, p1, l1, e1, e2, w1⟩ <;> rcases way_from hb ab he h2 with ⟨v2, p2, l2⟩ | ⟨v2, p2, l2, e3, e4, w2⟩
      · exact ⟨p1.trans p2.symm, l1.trans l2.symm⟩
      · exact absurd v1 v2
      · exact absurd v2 v1
      · obtain ⟨z1, z2⟩ := ih w1 w2
        rw [e1, e2, e3, e4, z1, z2]
        exact ⟨rfl, rfl⟩
    · rcases way_old hb ab he h1 hu with ⟨v1, _, w1⟩ | ⟨v1, p1, l1, e1, e2, w1⟩ <;> rcases way_old hb ab he h2 hu with ⟨v2, _, w2⟩ | ⟨v2, p2, l2, e3, e4, w2⟩
      · exact ih w1 w2
      · exact absurd v2 v1
      · exact absurd v1 v2
      · obtain ⟨z1, z2⟩ := ih w1 w2
        rw [e1, e2, e3, e4, z1, z2]
        exact ⟨rfl, rfl⟩
theorem IsTree.one_way {pl : List Nm} {ts : List Tie} (h : IsTree pl ts) {u v : Nm} {p q : List Nm} {L M : Int} (h1 : Way ts u v p L) (h2 : Way ts u v q M) : p = q ∧ L = M := by
  obtain ⟨os, es, g, _, p2⟩ := h
  exact g.one_way (h1.perm p2) (h2.perm p2)
/-- what is closed by ties and holds one place holds all -/
theorem Grown.all_of {os : List Nm} {es : List Tie} (g : Grown os es) : ∀ {F : Nm → Prop}, (∃ u ∈ os, F u) → (∀ x y k, F x → Adj es x y k → F y) → ∀ v ∈ os, F v := by
  induction g with
  | one a =>
    intro F ⟨u, hu, hF⟩ _ v hv
    rw [List.mem_singleton.mp hv, ← List.mem_singleton.mp hu]
    exact hF
  | @leaf os es a b k e0 g ha hbn he k1 k2 ih =>
    intro F ⟨u, hu, hF⟩ cl v hv
    have cab : Adj (es ++ [e0]) a b k := by
      rcases he with e | e
      · exact .inl (by rw [e]; simp)
      · exact .inr (by rw [e]; simp)
    have cl' : ∀ x y m, F x → Adj es x y m → F y := fun x y m hx h => cl x y m hx (h.elim (fun z => .inl (List.mem_append_left _ z)) fun z => .inr (List.mem_append_left _ z))
    have start : ∃ w ∈ os, F w := by
      rcases List.mem_append.mp hu with z | z
      · exact ⟨u, z, hF⟩
      · rw [List.mem_singleton.mp z] at hF
        exact ⟨a, ha, cl b a k hF cab.symm⟩
    have old := ih start cl'
    rcases List.mem_append.mp hv with z | z
    · exact old v z
    · rw [List.mem_singleton.mp z]
      exact cl a b k (old a ha) cab
theorem IsTree.all_of {pl : List Nm} {ts : List Tie} (h : IsTree pl ts) {F : Nm → Prop} {u : Nm} (hu : u ∈ pl) (hF : F u) (cl : ∀ x y k, F x → Adj ts x y k → F y) : ∀ v ∈ pl, F v := by
  obtain ⟨os, es, g, p1, p2⟩ := h
  intro v hv
  exact g.all_of ⟨u, p1.mem_iff.mp hu, hF⟩ (fun x y k hx ha => cl x y k hx (ha.perm p2.symm)) v (p1.mem_iff.mp hv)
theorem IsTree.way {pl : List Nm} {ts : List Tie} (h : IsTree pl ts) {u v : Nm} (hu : u ∈ pl) (hv : v ∈ pl) : ∃ p L, Way ts u v p L := by
  refine h.all_of (F := fun v => ∃ p L, Way ts u v p L) hu ⟨_, _, .nil⟩ (fun x y k ⟨p, L, hw⟩ ha => ?_) v hv
  by_cases hy : y ∈ p
  · obtain ⟨q, M, hq, _⟩ := hw.upto hy
    exact ⟨q, M, hq⟩
  · exact ⟨_, _, .snoc hw ha hy⟩
open Classical in
/-- the way and its length -/
noncomputable def wayOf (ts : List Tie) (u v : Nm) : List Nm × Int := if h : ∃ x : List Nm × Int, Way ts u v x.1 x.2 then h.choose else ([], 0)
noncomputable def path (ts : List Tie) (u v : Nm) : List Nm := (wayOf ts u v).1
noncomputable def dist (ts : List Tie) (u v : Nm) : Int := (wayOf ts u v).2
theorem IsTree.is_way {pl : List Nm} {ts : List Tie} (h : IsTree pl ts) {u v : Nm} {p : List Nm} {L : Int} (w : Way ts u v p L) : path ts u v = p ∧ dist ts u v = L := by
  have hx : ∃ x : List Nm × Int, Way ts u v x.1 x.2 := ⟨(p, L), w⟩
  unfold path dist wayOf
  rw [dif_pos hx]
  exact h.one_way hx.choose_spec w
theorem IsTree.the_way {pl : List Nm} {ts : List Tie} (h : IsTree pl ts) {u v : Nm} (hu : u ∈ pl) (hv : v ∈ pl) : Way ts u v (path ts u v) (dist ts u v) := by
  obtain ⟨p, L, w⟩ := h.way hu hv
  obtain ⟨e1, e2⟩ := h.is_way w
  rw [e1, e2]
  exact w
/-- the way back -/
theorem Way.cons {ts : List Tie} {u v w : Nm} {p : List Nm} {L k : Int} (ha : Adj ts w u k) (h : Way ts u v p L) (hn : w ∉ p) : Way ts w v (w :: p) (k + L) := by
  induction h with
  | nil =>
    have := Way.snoc (ts := ts) (u := w) .nil ha (by simpa using fun z => hn (by rw [z]; simp))
    simpa using this
  | @snoc v x p L m h1 hb hx ih =>
    have hn1 : w ∉ p := fun z => hn (List.mem_append_left _ z)
    have hxw : x ∉ w :: p := fun z => by
      rcases List.mem_cons.mp z with z | z
      · exact hn (by rw [z]; simp)
      · exact hx z
    have := Way.snoc (ih hn1) hb hxw
    rw [← Int.add_assoc]
    exact this
theorem Way.rev {ts : List Tie} {u v : Nm} {p : List Nm} {L : Int} (h : Way ts u v p L) : Way ts v u p.reverse L := by
  induction h with
  | nil => exact .nil
  | @snoc v w p L k h1 ha hn ih =>
    rw [List.reverse_append]
    have := Way.cons ha.symm ih (fun z => hn (List.mem_reverse.mp z))
    rw [Int.add_comm L k]
    exact this
theorem IsTree.dist_symm {pl : List Nm} {ts : List Tie} (h : IsTree pl ts) {u v : Nm} (hu : u ∈ pl) (hv : v ∈ pl) : dist ts u v = dist ts v u ∧ path ts v u = (path ts u v).reverse := by
  obtain ⟨e1, e2⟩ := h.is_way (h.the_way hu hv).rev
  exact ⟨e2.symm, e1⟩
theorem IsTree.dist_self {pl : List Nm} {ts : List Tie} (h : IsTree pl ts) (u : Nm) : dist ts u u = 0 ∧ path ts u u = [u] := by
  obtain ⟨e1, e2⟩ := h.is_way (u := u) .nil
  exact ⟨e2, e1⟩
theorem Way.nonneg {ts : List Tie} (hk : ∀ e ∈ ts, 1 ≤ e.2.2) {u v : Nm} {p : List Nm} {L : Int} (h : Way ts u v p L) : 0 ≤ L ∧ (p.length : Int) ≤ L + 1 := by
  induction h with
  | nil => simp
  | @snoc v w p L k _ ha _ ih =>
    have h1 : 1 ≤ k := ha.elim (fun z => hk _ z) fun z => hk _ z
    rw [List.length_append, List.length_singleton]
    omega
section
open PySem.Spec PyProof.Rows L2
/-! ### dicts by places -/
def dkm (fs : List Nm) (f : Nm → V) : List (Key × V) := fs.map fun l => (Sum.inr (S l), f l)
theorem dkm_get {f : Nm → V} {x : Nm} : ∀ {fs : List Nm}, x ∈ fs → valV (dkm fs f) (Sum.inr (S x)) = some (f x)
  | [], h => by simp at h
  | a :: r, h => by
    show valV ((Sum.inr (S a), f a) :: dkm r f) _ = _
    by_cases e : a = x
    · subst e
      exact valV_pos rfl
    · rw [valV_neg (fun z => e (SX.S_inj (Sum.inr.inj z)))]
      refine dkm_get ?_
      rcases List.mem_cons.mp h with z | z
      · exact absurd z.symm e
      · exact z
theorem dkm_no {f : Nm → V} {x : Nm} : ∀ {fs : List Nm}, x ∉ fs → valV (dkm fs f) (Sum.inr (S x)) = none
  | [], _ => rfl
  | a :: r, h => by
    show valV ((Sum.inr (S a), f a) :: dkm r f) _ = _
    rw [valV_neg (fun z => h (List.mem_cons.mpr (.inl (SX.S_inj (Sum.inr.inj z)).symm)))]
    exact dkm_no fun z => h (List.mem_cons.mpr (.inr z))
theorem dkm_cong {f g : Nm → V} {fs : List Nm} (h : ∀ x ∈ fs, f x = g x) : dkm fs f = dkm fs g := List.map_congr_left fun a ha => by rw [h a ha]
theorem dkm_new {f : Nm → V} {x : Nm} {v : V} {fs : List Nm} (h : x ∉ fs) : putK (dkm fs f) (Sum.inr (S x)) v = dkm (fs ++ [x]) (fun z => if z = x then v else f z) := by
  rw [putK_new _ (dkm_no h)]
  unfold dkm
  rw [List.map_append]
  have e : fs.map (fun l => ((Sum.inr (S l) : Key), f l)) = fs.map (fun l => ((Sum.inr (S l) : Key), if l = x then v else f l)) := List.map_congr_left fun a ha => by rw [if_neg (fun (z : a = x) => h (z ▸ ha))]
  rw [e]
  show _ = _ ++ [((Sum.inr (S x) : Key), if x = x then v else f x)]
  rw [if_pos rfl]
theorem dkm_some {f : Nm → V} {x : Nm} {fs : List Nm} : (valV (dkm fs f) (Sum.inr (S x))).isSome = decide (x ∈ fs) := by
  by_cases h : x ∈ fs
  · rw [dkm_get h, decide_eq_true h]
    rfl
  · rw [dkm_no h, decide_eq_false h]
    rfl
theorem tkD {H : Hp} {D : Addr} {kvs : List (Key × V)} {o : HO} (h : H D = some (.dK kvs)) : TK H (upd H D o) :=
  ⟨fun b xs z => by rw [upd_ne (ne_of z h (by intro q; cases q))]; exact z, fun b u xs z => by rw [upd_ne (ne_of z h (by intro q; cases q))]; exact z⟩
/-! ### a walk through a tree: fs come to, st to be gone on from, ex being gone on from -/
structure Wk (pl : List Nm) (ts : List Tie) (u : Nm) (fs st : List Nm) (prev : Nm → Nm) (ex : Nm → Prop) : Prop where
  nd : fs.Nodup
  sub : ∀ x ∈ fs, x ∈ pl
  sti : ∀ x ∈ st, x ∈ fs
  hu : u ∈ fs
  cl : ∀ x ∈ fs, ∀ y ∈ path ts u x, y ∈ fs
  pr : ∀ x ∈ fs, x ≠ u → prev x ∈ fs ∧ path ts u x = path ts u (prev x) ++ [x]
  done : ∀ x ∈ fs, x ∉ st → ¬ ex x → ∀ y k, Adj ts x y k → y ∈ fs
theorem Wk.start {pl : List Nm} {ts : List Tie} (h : IsTree pl ts) {u : Nm} (hu : u ∈ pl) : Wk pl ts u [u] [u] (fun _ => u) (fun _ => False) := by
  refine ⟨by simp, fun x hx => ?_, fun x hx => hx, by simp, fun x hx => ?_, fun x hx n => ?_, fun x hx n => absurd hx n⟩
  · rw [List.mem_singleton.mp hx]
    exact hu
  · rw [List.mem_singleton.mp hx, (h.dist_self u).2]
    exact fun y hy => hy
  · exact absurd (List.mem_singleton.mp hx) n
theorem Wk.pop {pl : List Nm} {ts : List Tie} {u h : Nm} {fs st : List Nm} {prev : Nm → Nm} (w : Wk pl ts u fs (st ++ [h]) prev (fun _ => False)) : h ∈ fs ∧ Wk pl ts u fs st prev (fun x => x = h) := by
  refine ⟨w.sti h (by simp), w.nd, w.sub, fun x hx => w.sti x (List.mem_append_left _ hx), w.hu, w.cl, w.pr, fun x hx n ne => w.done x hx (fun z => ?_) (fun z => z)⟩
  rcases List.mem_append.mp z with z | z
  · exact n z
  · exact ne (List.mem_singleton.mp z)
theorem Wk.push {pl : List Nm} {ts : List Tie} (tr : IsTree pl ts) {u h y : Nm} {k : Int} {fs st : List Nm} {prev : Nm → Nm} {ex : Nm → Prop} (w : Wk pl ts u fs st prev ex) (hh : h ∈ fs) (ha : Adj ts h y k) (hy : y ∉ fs) :
    dist ts u y = dist ts u h + k ∧ Wk pl ts u (fs ++ [y]) (st ++ [y]) (fun z => if z = y then h else prev z) ex := by
  have wh := tr.the_way (w.sub u w.hu) (w.sub h hh)
  have wy := Way.snoc wh ha fun z => hy (w.cl h hh y z)
  obtain ⟨e1, e2⟩ := tr.is_way wy
  have yp : y ∈ pl := by
    rcases ha with z | z
    · exact (tr.ties _ z).2.1
    · exact (tr.ties _ z).1
  refine ⟨e2, nd_snoc' w.nd hy, fun x hx => ?_, fun x hx => ?_, List.mem_append_left _ w.hu, fun x hx z hz => ?_, fun x hx n => ?_, fun x hx n ne z m hz => ?_⟩
  · rcases List.mem_append.mp hx with z | z
    · exact w.sub x z
    · rw [List.mem_singleton.mp z]
      exact yp
  · rcases List.mem_append.mp hx with z | z
    · exact List.mem_append_left _ (w.sti x z)
    · exact List.mem_append_right _ z
  · rcases List.mem_append.mp hx with q | q
    · exact List.mem_append_left _ (w.cl x q z hz)
    · rw [List.mem_singleton.mp q, e1] at hz
      rcases List.mem_append.mp hz with r | r
      · exact List.mem_append_left _ (w.cl h hh z r)
      · exact List.mem_append_right _ r
  · rcases List.mem_append.mp hx with q | q
    · have xy : x ≠ y := fun e => hy (e ▸ q)
      show (if x = y then h else prev x) ∈ fs ++ [y] ∧ path ts u x = path ts u (if x = y then h else prev x) ++ [x]
      rw [if_neg xy]
      exact ⟨List.mem_append_left _ (w.pr x q n).1, (w.pr x q n).2⟩
    · have xy := List.mem_singleton.mp q
      show (if x = y then h else prev x) ∈ fs ++ [y] ∧ path ts u x = path ts u (if x = y then h else prev x) ++ [x]
      rw [if_pos xy, xy]
      exact ⟨List.mem_append_left _ hh, e1⟩
  · rcases List.mem_append.mp hx with q | q
    · exact List.mem_append_left _ (w.done x q (fun r => n (List.mem_append_left _ r)) ne z m hz)
    · exact absurd (List.mem_append_right _ q) n
theorem Wk.shut {pl : List Nm} {ts : List Tie} {u h : Nm} {fs st : List Nm} {prev : Nm → Nm} (w : Wk pl ts u fs st prev (fun x => x = h)) (hd : ∀ y k, Adj ts h y k → y ∈ fs) : Wk pl ts u fs st prev (fun _ => False) :=
  ⟨w.nd, w.sub, w.sti, w.hu, w.cl, w.pr, fun x hx n _ y k ha => by
    by_cases e : x = h
    · rw [e] at ha
      exact hd y k ha
    · exact w.done x hx n e y k ha⟩
theorem Wk.all {pl : List Nm} {ts : List Tie} (tr : IsTree pl ts) {u : Nm} {fs : List Nm} {prev : Nm → Nm} (w : Wk pl ts u fs [] prev (fun _ => False)) : ∀ x, x ∈ fs ↔ x ∈ pl := fun x =>
  ⟨w.sub x, fun hx => tr.all_of (F := fun z => z ∈ fs) (w.sub u w.hu) w.hu (fun a b k ha hab => w.done a ha (by simp) (fun z => z) b k hab) x hx⟩
structure Fine (pl : List Nm) (ts : List Tie) : Prop where
  tree : IsTree pl ts
  ok : ∀ l ∈ pl, NameOk l
  len : pl.length ≤ 1000
theorem Fine.okT {pl : List Nm} {ts : List Tie} (F : Fine pl ts) {e : Tie} (he : e ∈ ts) : NameOk e.1 ∧ NameOk e.2.1 := by
  obtain ⟨i1, i2, _⟩ := F.tree.ties e he
  exact ⟨F.ok _ i1, F.ok _ i2⟩
theorem Fine.ne {pl : List Nm} {ts : List Tie} (F : Fine pl ts) : pl ≠ [] := fun z => by
  have := F.tree.len
  rw [z] at this
  simp at this
theorem dt_pair {H : Hp} {v : V} {d e : PyData} (h : Dt H v (.tuple [d, e])) (ne : ∀ l : Nm, e ≠ strD l) : ∃ (a : Addr) (x y : V), v = .ref a ∧ H a = some (.tup [x, y]) ∧ Dt H x d ∧ Dt H y e := by
  cases h with
  | tup ha hs =>
    cases hs with
    | cons h1 hr =>
      cases hr with
      | cons h2 hn =>
        cases hn
        exact ⟨_, _, _, rfl, ha, h1, h2⟩
  | @tupZ a pl _ o e _ _ _ =>
    exfalso
    cases pl with
    | nil => cases e
    | cons l r =>
      cases r with
      | nil => cases e
      | cons l2 r2 => exact ne l2 (List.cons.inj (List.cons.inj e).2).1
theorem dt_tup {H : Hp} {v : V} {ds : List PyData} (h : Dt H v (.tuple ds)) (ne : ds ≠ [] → ∃ d ∈ ds, ∀ l : Nm, d ≠ strD l) : ∃ (a : Addr) (xs : List V), v = .ref a ∧ H a = some (.tup xs) ∧ DtAll H xs ds := by
  cases h with
  | tup ha hs => exact ⟨_, _, rfl, ha, hs⟩
  | @tupZ a pl _ o e n _ _ =>
    exfalso
    obtain ⟨d, hd, no⟩ := ne (by rw [e]; simpa using n)
    rw [e] at hd
    obtain ⟨l, _, z⟩ := List.mem_map.mp hd
    exact no l z.symm
theorem dt_names {H : Hp} {v : V} {pl : List Nm} (h : Dt H v (.tuple (pl.map strD))) : ∃ a : Addr, v = .ref a ∧ TupAt H a ((pl.map S).map V.str) := by
  have inj : ∀ {p q : List Nm}, p.map strD = q.map strD → p = q := by
    intro p
    induction p with
    | nil =>
      intro q e
      cases q with
      | nil => rfl
      | cons _ _ => cases e
    | cons a r ih =>
      intro q e
      cases q with
      | nil => cases e
      | cons b t =>
        have e' := List.cons.inj e
        have h1 : S a = S b := PyData.str.inj e'.1
        rw [SX.S_inj h1, ih e'.2]
  generalize hd : pl.map strD = ds at h
  cases h with
  | tup ha hs =>
    subst hd
    rw [DtAll.strs hs] at ha
    exact ⟨_, rfl, .inl ha⟩
  | @tupZ a pl2 _ o e n d ha =>
    rw [← inj (hd.trans e)] at ha
    exact ⟨_, rfl, .inr ⟨o, d, ha⟩⟩
theorem tie_no (e : Tie) (l : Nm) : tieD e ≠ strD l := fun z => nomatch z
/-- a tree in the heap: its parts -/
theorem dt_tree {H : Hp} {v : V} {pl : List Nm} {ts : List Tie} (h : Dt H v (treeD pl ts)) : ∃ (t a b : Addr) (vs : List V), v = .ref t ∧ H t = some (.tup [.ref a, .ref b]) ∧ TupAt H a ((pl.map S).map V.str) ∧ H b = some (.tup vs) ∧ DtAll H vs (ts.map tieD) := by
  obtain ⟨t, x, y, rfl, ht, hx, hy⟩ := dt_pair h fun l z => nomatch z
  obtain ⟨a, rfl, ha⟩ := dt_names hx
  obtain ⟨b, vs, rfl, hb, hv⟩ := dt_tup hy fun n => by
    cases ts with
    | nil => exact absurd rfl n
    | cons e r => exact ⟨tieD e, List.mem_cons_self .., tie_no e⟩
  exact ⟨t, a, b, vs, rfl, ht, ha, hb, hv⟩
theorem dt_tie {H : Hp} {v : V} {e : Tie} (h : Dt H v (tieD e)) : ∃ t : Addr, v = .ref t ∧ H t = some (.tup [.str (S e.1), .str (S e.2.1), .int e.2.2]) := by
  obtain ⟨t, xs, rfl, ht, hs⟩ := dt_tup h fun _ => ⟨.int e.2.2, by simp [tieD], fun l z => nomatch z⟩
  cases hs with
  | cons h1 hr =>
    cases hr with
    | cons h2 hr =>
      cases hr with
      | cons h3 hr =>
        cases hr
        cases h1
        cases h2
        cases h3
        exact ⟨t, rfl, ht⟩
end
end Far

namespace Far
open PySem PySem.Spec PyProof.Rows L2
open SX (S)
/-- places with ties among them -/
structure Tied (pl : List Nm) (ts : List Tie) : Prop where
  nd : pl.Nodup
  ok : ∀ l ∈ pl, NameOk l
  len : pl.length ≤ 1000
  tlen : ts.length ≤ 1000
  tin : ∀ e ∈ ts, e.1 ∈ pl ∧ e.2.1 ∈ pl
/-- a part of the places, ps, with the ties among them, es, from which no tie leads on -/
structure FineC (pl : List Nm) (ts : List Tie) (ps : List Nm) (es : List Tie) : Prop where
  tree : IsTree ps es
  sub : ∀ x ∈ ps, x ∈ pl
  cl : ∀ x y k, x ∈ ps → Adj ts x y k → Adj es x y k
  inn : ∀ x y k, Adj es x y k → Adj ts x y k
  nd : pl.Nodup
  ok : ∀ l ∈ pl, NameOk l
  len : pl.length ≤ 1000
  tlen : ts.length ≤ 1000
  tin : ∀ e ∈ ts, e.1 ∈ pl ∧ e.2.1 ∈ pl
theorem Fine.comp {pl : List Nm} {ts : List Tie} (F : Fine pl ts) : FineC pl ts pl ts :=
  ⟨F.tree, fun _ h => h, fun _ _ _ _ h => h, fun _ _ _ h => h, F.tree.nodup, F.ok, F.len, by have := F.tree.len; have := F.len; omega, fun e he => ⟨(F.tree.ties e he).1, (F.tree.ties e he).2.1⟩⟩
theorem FineC.plen {pl : List Nm} {ts : List Tie} {ps : List Nm} {es : List Tie} (F : FineC pl ts ps es) : ps.length ≤ 1000 := Nat.le_trans (nodup_sub_len ps pl F.tree.nodup F.sub) F.len
theorem FineC.tied {pl : List Nm} {ts : List Tie} {ps : List Nm} {es : List Tie} (F : FineC pl ts ps es) : Tied pl ts := ⟨F.nd, F.ok, F.len, F.tlen, F.tin⟩
theorem Fine.tied {pl : List Nm} {ts : List Tie} (F : Fine pl ts) : Tied pl ts := F.comp.tied
end Far

namespace Far
open PySem PySem.Spec PyProof.Rows L2
section
variable {X : Cx}
/-- name = {k: v for ..} on one line, the name a local one -/
theorem ps_setDc {i : Nat} {y : Str} {py spos pos : Pos} {kx vx tg iter : Expr} {ifs : List Expr} {scope : Scope} {own : List (Str × Nat)} {wi : TI} {g : TG} {tt : TT} {tk tv : TE}
    (hc : X.calm = true) (hN : X.N.Nodup) (hy : X.N[i]? = some y) (hyl : X.env.scope.names.lookup y = some .local) (hsw : swapsWith (.DictComp kx vx [⟨tg, iter, ifs, 0⟩] scope pos) (some (.Name y py)) spos.line X.env = pure true)
    (hi : PI X tg iter wi) (ok : BlkOk X.N X.env.scope scope own)
    (hg : ∀ (s : Shared) (H : Hp) (C : Addr) (l : List (Str × Addr)) (fp : List Addr), PG (X.blk s H scope (compEnvC scope l C X.env) fp) tg g)
    (ht : ∀ (s : Shared) (H : Hp) (C : Addr) (l : List (Str × Addr)) (fp : List Addr), PTs (X.blk s H scope (compEnvC scope l C X.env) fp) ifs tt)
    (hk : ∀ (s : Shared) (H : Hp) (C : Addr) (l : List (Str × Addr)) (fp : List Addr), PE (X.blk s H scope (compEnvC scope l C X.env) fp) kx tk)
    (hv : ∀ (s : Shared) (H : Hp) (C : Addr) (l : List (Str × Addr)) (fp : List Addr), PE (X.blk s H scope (compEnvC scope l C X.env) fp) vx tv)
    (hs : ∀ x, foldedSetIterable iter X.env x = pure x := by intro _; rfl) : PS X (.Assign [.Name y py] (.DictComp kx vx [⟨tg, iter, ifs, 0⟩] scope pos) spos) (tAsg (tDc wi g tt tk tv (own.map (·.2))) (gName i)) := by
  refine ⟨fun pins s σ H D I h => ?_⟩
  replace h : tDc wi g tt tk tv (own.map (·.2)) σ H (fun v H1 => gName i v σ H1 D.nx) := h
  rw [exec_Assign_Name_used _ _ _ _ hsw]
  refine wpAny_bind (wpAny_standAt (wpAny_bind ?_))
  show wpAny _ X.A (do let _ ← comprehension (.DictComp kx vx [⟨tg, iter, ifs, 0⟩] scope pos) scope X.env (firstIterPos [⟨tg, iter, ifs, 0⟩] pos) newDict false (eval iter X.env) (some (assign (.Name y py) X.env))) _ _ s
  refine wpAny_bind (thn (dc_core (Qf := fun _ s1 => SP X pins D .next s1) hc hN I hi ok hg ht hk hv hs h fun L C s1 m H1 I1 q hn f => ?_) fun _ s1 z => wpAny_pure (wpAny_pure z))
  show wpAny _ _ (assign (.Name y py) X.env (.ref L)) _ _ _
  obtain ⟨f0, f1, f2, f3, f4, f5⟩ := f
  refine wpAny_assign_Name (store_ok2 (v := V.ref L) I1 hN hy (.inl hyl) rfl (fun s2 I2 ⟨a, sb, ha⟩ => ⟨m, hn.sameBut sb ?_, fun h3 sb3 => ?_⟩) (.inr hyl))
  · rcases ha with z | z
    · exact z ▸ f1
    · exact fun e => f4 y a z e.symm
  · exact ⟨_, H1, I2.turned (t' := s2.toks) (fun b o hb e => (sb3.2 b hb).trans e) f0 f1 f3 f4 f5, q⟩
theorem swD_true {kx vx : Expr} {gs : List Comprehension} {scope : Scope} {pos py : Pos} {y : Str} {l : Nat} {env : Env} (hk : env.scope.kind = .function) (hy : env.scope.names.lookup y = some .local) (hl : (py.line == pos.line) = true)
    (ha : (scope.names.any fun (n, k) => n == y && (k == .local || k == .cell)) = false) : swapsWith (.DictComp kx vx gs scope pos) (some (.Name y py)) l env = pure true := by
  have e1 : env.kindOf y = some .local := hy
  have e2 : env.blockKind = .function := by unfold Env.blockKind; rw [hk]; rfl
  unfold swapsWith
  simp only [e2, e1, ha, Expr.pos, hl]
  rfl
end
end Far

namespace Far
open PySem PySem.Spec PyProof.Rows L2
open C8 (pss_cut tCut)
open SX (S)
structure TxtW (mg : Str → Option Value) : Prop where
  tuple : mg "tuple" = none
/-! ### the ties of each place -/
def pairD (x : Nm × Int) : PyData := .tuple [.str (S x.1), .int x.2]
theorem dt_pairD {H : Hp} {v : V} {x : Nm × Int} (h : Dt H v (pairD x)) : ∃ t : Addr, v = .ref t ∧ H t = some (.tup [.str (S x.1), .int x.2]) := by
  obtain ⟨t, a, b, rfl, ht, h1, h2⟩ := dt_pair h fun l z => nomatch z
  cases h1
  cases h2
  exact ⟨t, rfl, ht⟩
/-- at D: for each place a list of its own, of the places tied to it with the ties' lengths -/
structure BesideAt (H : Hp) (D : Addr) (pl : List Nm) (ad : Nm → Addr) (nb : Nm → List (Nm × Int)) : Prop where
  dict : H D = some (.dK (dkm pl fun l => .ref (ad l)))
  each : ∀ l ∈ pl, ∃ vs, H (ad l) = some (.lst vs) ∧ DtAll H vs ((nb l).map pairD)
  inj : ∀ l ∈ pl, ∀ m ∈ pl, ad l = ad m → l = m
def nbAdd (nb : Nm → List (Nm × Int)) (a : Nm) (x : Nm × Int) : Nm → List (Nm × Int) := fun l => if l = a then nb l ++ [x] else nb l
theorem BesideAt.keep {H H' : Hp} {D : Addr} {pl : List Nm} {ad : Nm → Addr} {nb : Nm → List (Nm × Int)} (b : BesideAt H D pl ad nb) (s : Same H H') : BesideAt H' D pl ad nb :=
  ⟨s _ _ b.dict, fun l hl => let ⟨vs, h1, h2⟩ := b.each l hl; ⟨vs, s _ _ h1, DtAll.keep (TK.of s) h2⟩, b.inj⟩
theorem BesideAt.ne {H : Hp} {D : Addr} {pl : List Nm} {ad : Nm → Addr} {nb : Nm → List (Nm × Int)} (b : BesideAt H D pl ad nb) {l : Nm} (hl : l ∈ pl) : ad l ≠ D := by
  obtain ⟨vs, h, _⟩ := b.each l hl
  exact ne_of h b.dict (by intro z; cases z)
theorem BesideAt.add {H : Hp} {D : Addr} {pl : List Nm} {ad : Nm → Addr} {nb : Nm → List (Nm × Int)} (b : BesideAt H D pl ad nb) {a : Nm} (ha : a ∈ pl) {x : Nm × Int} {v : V} {vs : List V} (hv : Dt H v (pairD x)) (hvs : H (ad a) = some (.lst vs)) :
    BesideAt (upd H (ad a) (.lst (vs ++ [v]))) D pl ad (nbAdd nb a x) := by
  have tk : TK H (upd H (ad a) (.lst (vs ++ [v]))) := TK.mut hvs
  refine ⟨by rw [upd_ne (b.ne ha).symm]; exact b.dict, fun l hl => ?_, b.inj⟩
  by_cases e : l = a
  · subst e
    obtain ⟨ws, h1, h2⟩ := b.each l hl
    rw [hvs] at h1
    cases h1
    refine ⟨_, upd_same, ?_⟩
    unfold nbAdd
    rw [if_pos rfl, List.map_append]
    exact DtAll.app (DtAll.keep tk h2) (.cons (Dt.keep tk hv) .nil)
  · obtain ⟨ws, h1, h2⟩ := b.each l hl
    refine ⟨ws, by rw [upd_ne (fun z => e (b.inj l hl a ha z))]; exact h1, ?_⟩
    unfold nbAdd
    rw [if_neg e]
    exact DtAll.keep tk h2
/-- the ties of a place, as the program takes them down -/
def nbOf : List Tie → Nm → List (Nm × Int) := List.foldl (fun nb e => nbAdd (nbAdd nb e.1 (e.2.1, e.2.2)) e.2.1 (e.1, e.2.2)) (fun _ => [])
theorem nbOf_snoc (ts : List Tie) (e : Tie) : nbOf (ts ++ [e]) = nbAdd (nbAdd (nbOf ts) e.1 (e.2.1, e.2.2)) e.2.1 (e.1, e.2.2) := by
  unfold nbOf
  rw [List.foldl_append]
  rfl
theorem list_rec_snoc {α : Type} {P : List α → Prop} (h0 : P []) (h1 : ∀ l x, P l → P (l ++ [x])) : ∀ l, P l := by
  intro l
  have : ∀ r : List α, P r.reverse := by
    intro r
    induction r with
    | nil => exact h0
    | cons x r ih =>
      rw [List.reverse_cons]
      exact h1 _ _ ih
  have q := this l.reverse
  rwa [List.reverse_reverse] at q
theorem nbAdd_mem {nb : Nm → List (Nm × Int)} {a l : Nm} {x y : Nm × Int} : y ∈ nbAdd nb a x l ↔ y ∈ nb l ∨ (l = a ∧ y = x) := by
  unfold nbAdd
  by_cases e : l = a
  · rw [if_pos e, List.mem_append, List.mem_singleton]
    simp [e]
  · rw [if_neg e]
    simp [e]
theorem nbOf_adj (ts : List Tie) : ∀ (l x : Nm) (k : Int), (x, k) ∈ nbOf ts l ↔ Adj ts l x k := by
  induction ts using list_rec_snoc with
  | h0 =>
    intro l x k
    constructor
    · intro h
      cases h
    · intro h
      rcases h with h | h <;> cases h
  | h1 ts e ih =>
    intro l x k
    rw [nbOf_snoc, nbAdd_mem, nbAdd_mem, ih]
    obtain ⟨a, b, m⟩ := e
    constructor
    · rintro ((h | ⟨h1, h2⟩) | ⟨h1, h2⟩)
      · exact h.elim (fun z => .inl (List.mem_append_left _ z)) fun z => .inr (List.mem_append_left _ z)
      · cases h2
        exact .inl (by rw [h1]; simp)
      · cases h2
        exact .inr (by rw [h1]; simp)
    · rintro (h | h) <;> rcases List.mem_append.mp h with z | z
      · exact .inl (.inl (.inl z))
      · have z := List.mem_singleton.mp z
        cases z
        exact .inl (.inr ⟨rfl, rfl⟩)
      · exact .inl (.inl (.inr z))
      · have z := List.mem_singleton.mp z
        cases z
        exact .inr ⟨rfl, rfl⟩
theorem nbAdd_len {nb : Nm → List (Nm × Int)} {a l : Nm} {x : Nm × Int} : (nbAdd nb a x l).length ≤ (nb l).length + 1 := by
  unfold nbAdd
  split
  · rw [List.length_append]
    exact Nat.le_refl _
  · omega
theorem nbOf_len (ts : List Tie) : ∀ l, (nbOf ts l).length ≤ 2 * ts.length := by
  induction ts using list_rec_snoc with
  | h0 => intro l; exact Nat.zero_le _
  | h1 ts e ih =>
    intro l
    rw [nbOf_snoc, List.length_append, List.length_singleton]
    have h1 := nbAdd_len (nb := nbAdd (nbOf ts) e.1 (e.2.1, e.2.2)) (a := e.2.1) (l := l) (x := (e.1, e.2.2))
    have h2 := nbAdd_len (nb := nbOf ts) (a := e.1) (l := l) (x := (e.2.1, e.2.2))
    have h3 := ih l
    omega
/-- another object changes -/
theorem BesideAt.off {H : Hp} {D g : Addr} {o : HO} {pl : List Nm} {ad : Nm → Addr} {nb : Nm → List (Nm × Int)} (b : BesideAt H D pl ad nb) (tk : TK H (upd H g o)) (n : D ≠ g) (na : ∀ l ∈ pl, ad l ≠ g) : BesideAt (upd H g o) D pl ad nb :=
  ⟨by rw [upd_ne n]; exact b.dict, fun l hl => let ⟨vs, h1, h2⟩ := b.each l hl; ⟨vs, by rw [upd_ne (na l hl)]; exact h1, DtAll.keep tk h2⟩, b.inj⟩
abbrev s_ties_of_each : Stmt := topS 12
abbrev N_ties_of_each : List Str := ["tree", "places", "ties", "beside", "one", "other", "length", "place"]
theorem sc_ties_of_each : FnScope N_ties_of_each ["tree"] (defScope s_ties_of_each) := ⟨rfl, rfl, rfl, by decide +kernel, rfl, by decide +kernel, by decide +kernel⟩
section
variable {P : Program} {w : World} {K : PySem.W.Frag} {mg : Str → Option Value} {base : Heap}
def spTies : Sp := fun vs H Q _ => ∃ (v : V) (pl : List Nm) (ts : List Tie), vs = [v] ∧ Dt H v (treeD pl ts) ∧ Tied pl ts ∧ ∀ (H' : Hp) (D : Addr) (ad : Nm → Addr), Same H H' → H D = none → BesideAt H' D pl ad (nbOf ts) → (∀ l ∈ pl, H (ad l) = none) → Q (.ref D) H'
theorem ok_ties_of_each {f : Addr} {fd : FuncData} (F : Fun K "_ties_of_each" "_ties_of_each" s_ties_of_each f fd) : FnOk P w K mg base CX0 1 f fd ["tree"] spTies := by
  refine F.ok sc_ties_of_each (fun vs H Q E h => ?_) (fun cdv A outer s H vs Q E hr h => ?_)
  · obtain ⟨v, pl, ts, rfl, _⟩ := h
    rfl
  · obtain ⟨v, pl, ts, rfl, hd, fine, q⟩ := h
    obtain ⟨t, a, b, vs, rfl, ht, ha, hb, hA⟩ := dt_tree hd
    refine ⟨_, (pss_cons (ps_asg (pv 0) (pg_tup rfl (pgs_cons (pg_name (i := 1) sc_ties_of_each.nd rfl (.inl rfl)) (pgs_cons (pg_name (i := 2) sc_ties_of_each.nd rfl (.inl rfl)) pgs_nil))))
      (pss_cons (ps_setDc (i := 3) (own := [("place", 7)]) (g := gName 7) (tt := tYes) rfl sc_ties_of_each.nd rfl rfl (swD_true rfl rfl rfl (by decide +kernel)) (pi_tup (pv 1)) (blkOk_by (N := N_ties_of_each) (sc := defScope s_ties_of_each) (by decide +kernel)) (fun _ _ _ _ _ => pg_name (i := 7) sc_ties_of_each.nd rfl (Or.inl rfl)) (fun _ _ _ _ _ => pts_nil) (fun _ _ _ _ _ => (pv 7)) (fun _ _ _ _ _ => (pe_lst pa_nil)))
      (pss_cut (ps_for PassesOwn.never rfl (pi_tup (pv 2)) (pg_tup rfl (pgs_cons (pg_name (i := 4) sc_ties_of_each.nd rfl (.inl rfl)) (pgs_cons (pg_name (i := 5) sc_ties_of_each.nd rfl (.inl rfl)) (pgs_cons (pg_name (i := 6) sc_ties_of_each.nd rfl (.inl rfl)) pgs_nil))))
        (pss_cons (ps_expr (pe_bm PySem.F.plainAttrs_list PySem.F.slot_list_append PySem.F.type_list_append mt_append (pe_dget (hu_of hr) (pv 3) (pv 4) (fun _ _ => rfl)) (pa_cons (pe_tup (pa_cons (pv 5) (pa_cons (pv 6) pa_nil))) pa_nil)))
        (pss_one (ps_expr (pe_bm PySem.F.plainAttrs_list PySem.F.slot_list_append PySem.F.type_list_append mt_append (pe_dget (hu_of hr) (pv 3) (pv 5) (fun _ _ => rfl)) (pa_cons (pe_tup (pa_cons (pv 4) (pa_cons (pv 6) pa_nil))) pa_nil))))))
      (pss_one (ps_ret (pv 3)))))), ?_⟩
    have nd := fine.nd
    have pl1 := fine.len
    have len := fine.tlen
    have vl : vs.length = ts.length := by
      have := DtAll.len hA
      rwa [List.length_map] at this
    refine ⟨_, rfl, t, _, rfl, SqT.of ht, rfl, _, _, rfl, _, _, rfl, rfl, ?_⟩
    refine ⟨_, rfl, a, rfl, ⟨_, ha.sq⟩, fun D nD => ?_⟩
    have Da : D ≠ a := (ha.ne nD).symm
    refine dc_tup (K := K) (a := a) (xs := (pl.map S).map V.str) (fun i H' => ∃ ad : Nm → Addr, Same H H' ∧ BesideAt H' D (pl.take i) ad (fun _ => []) ∧ ∀ l ∈ pl.take i, H (ad l) = none) ⟨fun _ => 0, same_new (Same.refl H) nD, ⟨upd_same, fun l hl => (by cases hl), fun l hl => (by cases hl)⟩, fun l hl => (by cases hl)⟩ (fun i H' _ hP => ?_) (fun i x H' hi hP => ?_) (fun H' hP => ?_)
    · obtain ⟨_, sm, _⟩ := hP
      exact (ha.same sm).sq
    · obtain ⟨ad, sm, bs, fr⟩ := hP
      rw [List.getElem?_map, List.getElem?_map] at hi
      cases el : pl[i]? with
      | none =>
        rw [el] at hi
        cases hi
      | some l =>
        rw [el] at hi
        have ex : x = .str (S l) := (Option.some.inj hi).symm
        subst ex
        have ln : l ∉ pl.take i := fun hm => by
          obtain ⟨j, hj, ej⟩ := List.mem_take_iff_getElem.mp hm
          obtain ⟨hi', ei⟩ := List.getElem?_eq_some_iff.mp el
          have := (List.getElem_inj nd).mp (ej.trans ei.symm)
          omega
        have et : pl.take (i + 1) = pl.take i ++ [l] := by
          rw [List.take_add_one, el]
          rfl
        refine ⟨rfl, _, rfl, Nat.zero_le _, fun g ng => ?_⟩
        have gD : g ≠ D := (ne_of_none bs.dict ng).symm
        have hD : (upd H' g (.lst [])) D = some (.dK (dkm (pl.take i) fun l => .ref (ad l))) := by
          rw [upd_ne gD.symm]
          exact bs.dict
        refine ⟨_, Sum.inr (S l), rfl, hD, by unfold dkm; rw [List.length_map, List.length_take]; exact sz_lt (by omega), ?_⟩
        rw [dkm_new ln, et]
        have adg : ∀ m ∈ pl.take i, ad m ≠ g := fun m hm => by
          obtain ⟨ws, h1, _⟩ := bs.each m hm
          exact ne_of_none h1 ng
        refine ⟨fun z => if z = l then g else ad z, same_put (same_new sm ng) nD, ⟨?_, fun m hm => ?_, fun m hm m' hm' => ?_⟩, fun m hm => ?_⟩
        · rw [upd_same]
          refine congrArg (fun z => some (HO.dK z)) (dkm_cong fun z _ => ?_)
          by_cases e : z = l <;> simp [e]
        · rcases List.mem_append.mp hm with z | z
          · have ml : m ≠ l := fun e => ln (e ▸ z)
            obtain ⟨ws, h1, h2⟩ := bs.each m z
            refine ⟨ws, ?_, DtAll.keep ((TK.new ng).trans (tkD hD)) h2⟩
            rw [if_neg ml, upd_ne (bs.ne z), upd_ne (adg m z)]
            exact h1
          · rw [List.mem_singleton.mp z, if_pos rfl]
            exact ⟨[], by rw [upd_ne gD]; exact upd_same, .nil⟩
        · rcases List.mem_append.mp hm with z | z <;> rcases List.mem_append.mp hm' with y | y
          · have ml : m ≠ l := fun e => ln (e ▸ z)
            have ml' : m' ≠ l := fun e => ln (e ▸ y)
            rw [if_neg ml, if_neg ml']
            exact bs.inj m z m' y
          · have ml : m ≠ l := fun e => ln (e ▸ z)
            rw [if_neg ml, List.mem_singleton.mp y, if_pos rfl]
            exact fun e => absurd e (adg m z)
          · have ml' : m' ≠ l := fun e => ln (e ▸ y)
            rw [if_neg ml', List.mem_singleton.mp z, if_pos rfl]
            exact fun e => absurd e.symm (adg m' y)
          · rw [List.mem_singleton.mp z, List.mem_singleton.mp y]
            exact fun _ => rfl
        · rcases List.mem_append.mp hm with z | z
          · have ml : m ≠ l := fun e => ln (e ▸ z)
            show H (if m = l then g else ad m) = none
            rw [if_neg ml]
            exact fr m z
          · rw [List.mem_singleton.mp z]
            show H (if l = l then g else ad l) = none
            rw [if_pos rfl]
            exact sm.free ng
    · obtain ⟨ad, sm, bs, fr⟩ := hP
      rw [List.length_map, List.length_map, List.take_length] at bs fr
      refine ⟨fun σ2 H2 => ∃ x4 x5 x6, σ2 = [some (.ref t), some (.ref a), some (.ref b), some (.ref D), x4, x5, x6, none] ∧ Same H H2 ∧ BesideAt H2 D pl ad (nbOf ts), ?_, fun σ2 H2 hM => ?_⟩
      · refine ⟨_, rfl, b, rfl, ⟨_, SqT.of (sm _ _ hb)⟩, for_tup (K := K) (a := b) (xs := vs) (fun i σ2 H2 => ∃ x4 x5 x6, σ2 = [some (.ref t), some (.ref a), some (.ref b), some (.ref D), x4, x5, x6, none] ∧ Same H H2 ∧ BesideAt H2 D pl ad (nbOf (ts.take i)))
          ⟨none, none, none, rfl, sm, bs⟩ (fun i σ2 H2 _ hP => ?_) (fun i x σ2 H2 hi hP => ?_) (fun σ2 H2 hP => ?_)⟩
        · obtain ⟨_, _, _, _, sm, _⟩ := hP
          exact SqT.of (sm _ _ hb)
        · obtain ⟨x4, x5, x6, rfl, sm2, bs2⟩ := hP
          obtain ⟨d, hd, hx⟩ := DtAll.get hA hi
          rw [List.getElem?_map] at hd
          cases ee : ts[i]? with
          | none =>
            rw [ee] at hd
            cases hd
          | some e =>
            rw [ee] at hd
            have ed : d = tieD e := (Option.some.inj hd).symm
            subst ed
            obtain ⟨u, rfl, hu⟩ := dt_tie hx
            have em : e ∈ ts := List.mem_of_getElem? ee
            obtain ⟨i1, i2⟩ := fine.tin e em
            have et : ts.take (i + 1) = ts.take i ++ [e] := by
              rw [List.take_add_one, ee]
              rfl
            have tl : (ts.take i).length ≤ 1000 := by
              rw [List.length_take]
              omega
            refine ⟨u, _, rfl, SqT.of (sm2 _ _ hu), rfl, _, _, rfl, _, _, rfl, _, _, rfl, rfl, ?_⟩
            -- beside[one].append
            obtain ⟨w1, g1, g2⟩ := bs2.each e.1 i1
            have l1 : w1.length = (nbOf (ts.take i) e.1).length := by
              have := DtAll.len g2
              rwa [List.length_map] at this
            have l1' := nbOf_len (ts.take i) e.1
            refine ⟨_, rfl, _, rfl, D, .ref (ad e.1), rfl, by rw [← dkm_get (f := fun l => V.ref (ad l)) i1]; exact DGet.k (k := Sum.inr (S e.1)) bs2.dict, .inl ⟨rfl, _, SqL.of g1⟩, _, rfl, _, rfl, (by show 2 ≤ sizeLine; decide), fun p np => ?_⟩
            have bs3 := bs2.keep (same_new (o := .tup [.str (S e.2.1), .int e.2.2]) (Same.refl H2) np)
            have g1' : (upd H2 p (.tup [.str (S e.2.1), .int e.2.2])) (ad e.1) = some (.lst w1) := by
              rw [upd_ne (ne_of_none g1 np)]
              exact g1
            refine ⟨_, _, _, rfl, rfl, g1', sz_lt (by omega), ?_⟩
            have bs4 := bs3.add i1 (x := (e.2.1, e.2.2)) (v := .ref p) (.tup upd_same (.cons (.str _) (.cons (.int _) .nil))) g1'
            have sm4 : Same H (upd (upd H2 p (.tup [.str (S e.2.1), .int e.2.2])) (ad e.1) (.lst (w1 ++ [.ref p]))) := same_put (same_new sm2 np) (fr _ i1)
            generalize upd (upd H2 p (.tup [.str (S e.2.1), .int e.2.2])) (ad e.1) (.lst (w1 ++ [.ref p])) = H4 at bs4 sm4
            -- beside[other].append
            obtain ⟨w2, g3, g4⟩ := bs4.each e.2.1 i2
            have l2 : w2.length = (nbAdd (nbOf (ts.take i)) e.1 (e.2.1, e.2.2) e.2.1).length := by
              have := DtAll.len g4
              rwa [List.length_map] at this
            have l2' := nbOf_len (ts.take i) e.2.1
            have l2'' := nbAdd_len (nb := nbOf (ts.take i)) (a := e.1) (l := e.2.1) (x := (e.2.1, e.2.2))
            refine ⟨_, rfl, _, rfl, D, .ref (ad e.2.1), rfl, by rw [← dkm_get (f := fun l => V.ref (ad l)) i2]; exact DGet.k (k := Sum.inr (S e.2.1)) bs4.dict, .inl ⟨rfl, _, SqL.of g3⟩, _, rfl, _, rfl, (by show 2 ≤ sizeLine; decide), fun p' np' => ?_⟩
            have bs5 := bs4.keep (same_new (o := .tup [.str (S e.1), .int e.2.2]) (Same.refl H4) np')
            have g3' : (upd H4 p' (.tup [.str (S e.1), .int e.2.2])) (ad e.2.1) = some (.lst w2) := by
              rw [upd_ne (ne_of_none g3 np')]
              exact g3
            refine ⟨_, _, _, rfl, rfl, g3', sz_lt (by omega), ?_⟩
            have bs6 := bs5.add i2 (x := (e.1, e.2.2)) (v := .ref p') (.tup upd_same (.cons (.str _) (.cons (.int _) .nil))) g3'
            refine ⟨_, _, _, rfl, same_put (same_new sm4 np') (fr _ i2), ?_⟩
            rw [et, nbOf_snoc]
            exact bs6
        · obtain ⟨x4, x5, x6, rfl, sm2, bs2⟩ := hP
          rw [vl, List.take_length] at bs2
          exact ⟨_, _, _, rfl, sm2, bs2⟩
      · obtain ⟨x4, x5, x6, rfl, sm2, bs2⟩ := hM
        exact ⟨_, rfl, q H2 D ad sm2 nD bs2 fr⟩
end
end Far

namespace Far
open PySem PySem.Spec PyProof.Rows L2
open C8 (pss_cut tCut)
open SX (S)
/-! ### a walk through a tree: fs come to, st to be gone on from, ex being gone on from -/
abbrev s_walk_from : Stmt := topS 11
abbrev N_walk_from : List Str := ["tree", "start", "beside", "back", "lengths", "ahead", "here", "place", "length"]
theorem sc_walk_from : FnScope N_walk_from ["tree", "start"] (defScope s_walk_from) := ⟨rfl, rfl, rfl, by decide +kernel, rfl, by decide +kernel, by decide +kernel⟩
section
variable {P : Program} {w : World} {K : PySem.W.Frag} {mg : Str → Option Value} {base : Heap}
/-- what a walk from u tells, at q -/
structure Walked (H : Hp) (q bk ln : Addr) (pl : List Nm) (ts : List Tie) (u : Nm) (fs : List Nm) (prev : Nm → Nm) : Prop where
  pair : H q = some (.tup [.ref bk, .ref ln])
  back : H bk = some (.dK (dkm fs fun x => .str (S (prev x))))
  lens : H ln = some (.dK (dkm fs fun x => .int (dist ts u x)))
  all : ∀ x, x ∈ fs ↔ x ∈ pl
  pr : ∀ x ∈ fs, x ≠ u → prev x ∈ fs ∧ path ts u x = path ts u (prev x) ++ [x]
def spWalkC : Sp := fun vs H Q _ => ∃ (v : V) (pl : List Nm) (ts : List Tie) (ps : List Nm) (es : List Tie) (u : Nm), vs = [v, .str (S u)] ∧ Dt H v (treeD pl ts) ∧ FineC pl ts ps es ∧ u ∈ ps ∧ ∀ (H' : Hp) (q bk ln : Addr) (fs : List Nm) (prev : Nm → Nm), Same H H' → Walked H' q bk ln ps es u fs prev → Q (.ref q) H'
theorem ok_walk_fromC {f : Addr} {fd : FuncData} (F : Fun K "walk_from" "walk_from" s_walk_from f fd) (C_ties_of_each : Cal P w K mg base 1 "_ties_of_each" spTies) : FnOk P w K mg base CX0 2 f fd ["tree", "start"] spWalkC := by
  refine F.ok sc_walk_from (fun vs H Q E h => ?_) (fun cdv A outer s H vs Q E hr h => ?_)
  · obtain ⟨v, pl, ts, ps, es, u, rfl, _⟩ := h
    rfl
  · obtain ⟨v, pl, ts, ps, es, u, rfl, hd, fine, hu, q⟩ := h
    refine ⟨_, (pss_cons (ps_set (i := 2) sc_walk_from.nd rfl (.inl rfl) (pe_c C_ties_of_each hr (by decide) rfl (pa_cons (pv 0) pa_nil)))
      (pss_cons (ps_set (i := 3) sc_walk_from.nd rfl (.inl rfl) (pe_disp (pps_cons (pv 1) (pv 1) pps_nil) (by rfl) (by rfl) (fun z => by cases z) (by decide)))
      (pss_cons (ps_set (i := 4) sc_walk_from.nd rfl (.inl rfl) (pe_disp (pps_cons (pv 1) pe_int pps_nil) (by rfl) (by rfl) (fun z => by cases z) (by decide)))
      (pss_cons (ps_set (i := 5) sc_walk_from.nd rfl (.inl rfl) (pe_lst (pa_cons (pv 1) pa_nil)))
      (pss_cut (ps_while PassesOwn.never (pt_truth (pv 5) (by intro _; rfl))
        (pss_cons (ps_set (i := 6) sc_walk_from.nd rfl (.inl rfl) (pe_bm0 PySem.F.plainAttrs_list PySem.F.slot_list_pop PySem.F.type_list_pop mt_pop (pv 5)))
        (pss_one (ps_for PassesOwn.never rfl (pi_list (pe_dget (hu_of hr) (pv 2) (pv 6) (fun _ _ => rfl))) (pg_tup rfl (pgs_cons (pg_name (i := 7) sc_walk_from.nd rfl (.inl rfl)) (pgs_cons (pg_name (i := 8) sc_walk_from.nd rfl (.inl rfl)) pgs_nil)))
          (pss_one (ps_if (pt_cmp (pc_dnotin (hu_of hr) (pv 7) (pv 3)))
            (pss_cons (ps_dput (hu_of hr) (pv 3) (pv 7) (pv 6) rfl)
            (pss_cons (ps_dput (hu_of hr) (pv 4) (pv 7) (pe_op op_add (pe_dget (hu_of hr) (pv 4) (pv 6) (fun _ _ => rfl)) (pv 8)) rfl)
            (pss_one (ps_expr (pe_bm PySem.F.plainAttrs_list PySem.F.slot_list_append PySem.F.type_list_append mt_append (pv 5) (pa_cons (pv 7) pa_nil))))))
            pss_nil))))))
      (pss_one (ps_ret (pe_tup (pa_cons (pv 3) (pa_cons (pv 4) pa_nil)))))))))), ?_⟩
    have tr := fine.tree
    have pl1 := fine.plen
    have tl0 := fine.tlen
    have tl1 := tr.len
    refine ⟨_, rfl, v, pl, ts, rfl, hd, fine.tied, fun H1 D ad S1 nD bs fr => ?_⟩
    -- back, lengths, ahead
    refine fun bk nbk => ⟨_, rfl, _, rfl, upd_same, [(Sum.inr (S u), .str (S u))], rfl, (by decide : 1 ≤ 15), ?_⟩
    rw [upd_upd]
    have S2 := same_new (o := .dK (mergeK [] [((Sum.inr (S u) : Key), V.str (S u))])) S1 nbk
    have bs2 := bs.keep (same_new (o := .dK (mergeK [] [((Sum.inr (S u) : Key), V.str (S u))])) (Same.refl H1) nbk)
    refine fun ln nln => ⟨_, rfl, upd_same, [(Sum.inr (S u), .int 0)], rfl, (by decide : 1 ≤ 15), ?_⟩
    rw [upd_upd]
    have S3 := same_new (o := .dK (mergeK [] [((Sum.inr (S u) : Key), V.int 0)])) S2 nln
    have bs3 := bs2.keep (same_new (o := .dK (mergeK [] [((Sum.inr (S u) : Key), V.int 0)])) (Same.refl _) nln)
    refine ⟨_, rfl, (by show 1 ≤ sizeLine; decide), fun ah nah => ?_⟩
    have S4 := same_new (o := .lst [.str (S u)]) S3 nah
    have bs4 := bs3.keep (same_new (o := .lst [.str (S u)]) (Same.refl _) nah)
    have bkln : bk ≠ ln := ne_of_none upd_same nln
    have bkah : bk ≠ ah := ne_of_none (by rw [upd_ne bkln]; exact upd_same) nah
    have lnah : ln ≠ ah := ne_of_none upd_same nah
    have Dbk : D ≠ bk := ne_of_none bs.dict nbk
    have Dln : D ≠ ln := ne_of_none bs2.dict nln
    have Dah : D ≠ ah := ne_of_none bs3.dict nah
    have bk0 : H bk = none := S1.free nbk
    have ln0 : H ln = none := S2.free nln
    have ah0 : H ah = none := S3.free nah
    have adbk : ∀ l ∈ pl, ad l ≠ bk := fun l hl => let ⟨_, h1, _⟩ := bs.each l hl; ne_of_none h1 nbk
    have adln : ∀ l ∈ pl, ad l ≠ ln := fun l hl => let ⟨_, h1, _⟩ := bs2.each l hl; ne_of_none h1 nln
    have adah : ∀ l ∈ pl, ad l ≠ ah := fun l hl => let ⟨_, h1, _⟩ := bs3.each l hl; ne_of_none h1 nah
    have hbk : (upd (upd (upd H1 bk (.dK (mergeK [] [((Sum.inr (S u) : Key), V.str (S u))]))) ln (.dK (mergeK [] [((Sum.inr (S u) : Key), V.int 0)]))) ah (.lst [.str (S u)])) bk = some (.dK (dkm [u] fun x => .str (S u))) := by
      rw [upd_ne bkah, upd_ne bkln]
      exact upd_same
    have hln : (upd (upd (upd H1 bk (.dK (mergeK [] [((Sum.inr (S u) : Key), V.str (S u))]))) ln (.dK (mergeK [] [((Sum.inr (S u) : Key), V.int 0)]))) ah (.lst [.str (S u)])) ln = some (.dK (dkm [u] fun x => .int (dist es u x))) := by
      rw [upd_ne lnah]
      refine upd_same.trans ?_
      unfold dkm
      rw [List.map_singleton]
      show some (HO.dK [((Sum.inr (S u) : Key), V.int 0)]) = some (HO.dK [((Sum.inr (S u) : Key), V.int (dist es u u))])
      rw [(tr.dist_self u).1]
    have hah : (upd (upd (upd H1 bk (.dK (mergeK [] [((Sum.inr (S u) : Key), V.str (S u))]))) ln (.dK (mergeK [] [((Sum.inr (S u) : Key), V.int 0)]))) ah (.lst [.str (S u)])) ah = some (.lst (([u].map S).map V.str)) := upd_same
    generalize upd (upd (upd H1 bk (.dK (mergeK [] [((Sum.inr (S u) : Key), V.str (S u))]))) ln (.dK (mergeK [] [((Sum.inr (S u) : Key), V.int 0)]))) ah (.lst [.str (S u)]) = H4 at S4 bs4 hbk hln hah
    refine ⟨fun σ' H' => ∃ (fs : List Nm) (prev : Nm → Nm) (x6 x7 x8 : Option V), σ' = [some v, some (.str (S u)), some (.ref D), some (.ref bk), some (.ref ln), some (.ref ah), x6, x7, x8] ∧ Same H H' ∧ H' bk = some (.dK (dkm fs fun x => .str (S (prev x)))) ∧ H' ln = some (.dK (dkm fs fun x => .int (dist es u x))) ∧ Wk ps es u fs [] prev (fun _ => False), ?_, fun σ' H' hM => ?_⟩
    · refine ⟨fun m σ' H' => ∃ (fs st : List Nm) (prev : Nm → Nm) (x6 x7 x8 : Option V), σ' = [some v, some (.str (S u)), some (.ref D), some (.ref bk), some (.ref ln), some (.ref ah), x6, x7, x8] ∧ Same H H' ∧ BesideAt H' D pl ad (nbOf ts) ∧ H' bk = some (.dK (dkm fs fun x => .str (S (prev x)))) ∧ H' ln = some (.dK (dkm fs fun x => .int (dist es u x))) ∧ H' ah = some (.lst ((st.map S).map V.str)) ∧ Wk ps es u fs st prev (fun _ => False) ∧ st.length ≤ fs.length ∧ 2 * fs.length + m = 2 * ps.length + st.length,
        ⟨2 * ps.length - 1, [u], [u], fun _ => u, none, none, none, rfl, S4, bs4, hbk, hln, hah, Wk.start tr hu, Nat.le_refl _, by have := List.length_pos_of_mem hu; simp; omega⟩, ?_⟩
      rintro m σ2 H2 ⟨fs, st, prev, x6, x7, x8, rfl, SM, bs5, hbk5, hln5, hah5, wk, sl, em⟩
      refine ⟨_, rfl, _, .inl ⟨_, SqL.of hah5, rfl⟩, ?_⟩
      rcases List.eq_nil_or_concat st with rfl | ⟨st', h, e⟩
      · exact ⟨fs, prev, x6, x7, x8, rfl, SM, hbk5, hln5, wk⟩
      · rw [List.concat_eq_append] at e
        subst e
        have ne : ((st' ++ [h]).map S).map V.str = (st'.map S).map V.str ++ [.str (S h)] := by
          rw [List.map_append, List.map_append]
          rfl
        rw [ne] at hah5 ⊢
        have nb : (!((st'.map S).map V.str ++ [V.str (S h)]).isEmpty) = true := by simp
        rw [nb]
        refine iteT ?_
        obtain ⟨hh, wk1⟩ := wk.pop
        have hpl := fine.sub _ (wk1.sub h hh)
        have fl := nodup_sub_len fs ps wk.nd wk.sub
        rw [List.length_append, List.length_singleton] at em sl
        obtain ⟨ws, hw1, hw2⟩ := bs5.each h hpl
        have wl : ws.length = (nbOf ts h).length := by
          have := DtAll.len hw2
          rwa [List.length_map] at this
        refine ⟨fun σ' H' => ∃ (fs' st'' : List Nm) (prev' : Nm → Nm) (x6 x7 x8 : Option V), σ' = [some v, some (.str (S u)), some (.ref D), some (.ref bk), some (.ref ln), some (.ref ah), x6, x7, x8] ∧ Same H H' ∧ BesideAt H' D pl ad (nbOf ts) ∧ H' bk = some (.dK (dkm fs' fun x => .str (S (prev' x)))) ∧ H' ln = some (.dK (dkm fs' fun x => .int (dist es u x))) ∧ H' ah = some (.lst ((st''.map S).map V.str)) ∧ Wk ps es u fs' st'' prev' (fun _ => False) ∧ fs.length ≤ fs'.length ∧ fs'.length + st'.length = fs.length + st''.length, ?_, ?_⟩
        · rintro σ' H' ⟨fs', st'', prev', y6, y7, y8, e1, e2, e3, e4, e5, e6, e7, e8, e9⟩
          have fl' := nodup_sub_len fs' ps e7.nd e7.sub
          exact ⟨2 * ps.length + st''.length - 2 * fs'.length, by omega, fs', st'', prev', y6, y7, y8, e1, e2, e3, e4, e5, e6, e7, by omega, by omega⟩
        · refine ⟨_, rfl, .inl ⟨rfl, _, SqL.of hah5⟩, ah, _, .str (S h), rfl, rfl, hah5, by simp, ?_⟩
          rw [List.dropLast_concat]
          have hbk6 : (upd H2 ah (.lst ((st'.map S).map V.str))) bk = some (.dK (dkm fs fun x => .str (S (prev x)))) := by rw [upd_ne bkah]; exact hbk5
          have hln6 : (upd H2 ah (.lst ((st'.map S).map V.str))) ln = some (.dK (dkm fs fun x => .int (dist es u x))) := by rw [upd_ne lnah]; exact hln5
          have hw6 : (upd H2 ah (.lst ((st'.map S).map V.str))) (ad h) = some (.lst ws) := by rw [upd_ne (adah h hpl)]; exact hw1
          have SM6 : Same H (upd H2 ah (.lst ((st'.map S).map V.str))) := same_put SM ah0
          have bs6 : BesideAt (upd H2 ah (.lst ((st'.map S).map V.str))) D pl ad (nbOf ts) := bs5.off (TK.mut hah5) Dah adah
          have hah6 : (upd H2 ah (.lst ((st'.map S).map V.str))) ah = some (.lst ((st'.map S).map V.str)) := upd_same
          generalize upd H2 ah (.lst ((st'.map S).map V.str)) = H6 at hbk6 hln6 hw6 SM6 bs6 hah6
          refine ⟨_, rfl, _, rfl, D, .ref (ad h), rfl, by rw [← dkm_get (f := fun l => V.ref (ad l)) hpl]; exact DGet.k (k := Sum.inr (S h)) bs6.dict, ad h, rfl, ⟨_, SqL.of hw6⟩, for_list (K := K) (a := ad h) (xs := ws) (fun i σ' H' => ∃ (fs' st'' : List Nm) (prev' : Nm → Nm) (x7 x8 : Option V), σ' = [some v, some (.str (S u)), some (.ref D), some (.ref bk), some (.ref ln), some (.ref ah), some (.str (S h)), x7, x8] ∧ Same H H' ∧ BesideAt H' D pl ad (nbOf ts) ∧ H' (ad h) = some (.lst ws) ∧ H' bk = some (.dK (dkm fs' fun x => .str (S (prev' x)))) ∧ H' ln = some (.dK (dkm fs' fun x => .int (dist es u x))) ∧ H' ah = some (.lst ((st''.map S).map V.str)) ∧ Wk ps es u fs' st'' prev' (fun x => x = h) ∧ fs.length ≤ fs'.length ∧ fs'.length + st'.length = fs.length + st''.length ∧ h ∈ fs' ∧ ∀ p ∈ (nbOf ts h).take i, p.1 ∈ fs')
            ⟨fs, st', prev, x7, x8, rfl, SM6, bs6, hw6, hbk6, hln6, hah6, wk1, Nat.le_refl _, rfl, hh, fun p hp => (by cases hp)⟩ (fun i σ' H' _ hP => ?_) (fun i x σ' H' hi hP => ?_) (fun σ' H' hP => ?_)⟩
          · obtain ⟨_, _, _, _, _, _, _, _, hw, _⟩ := hP
            exact SqL.of hw
          · obtain ⟨fs', st'', prev', y7, y8, rfl, SM7, bs7, hw7, hbk7, hln7, hah7, wk7, le7, em7, hh7, nb7⟩ := hP
            obtain ⟨ws', hw', hA7⟩ := bs7.each h hpl
            rw [hw7] at hw'
            cases hw'
            obtain ⟨d, hd', hx⟩ := DtAll.get hA7 hi
            rw [List.getElem?_map] at hd'
            cases ee : (nbOf ts h)[i]? with
            | none =>
              rw [ee] at hd'
              cases hd'
            | some yk =>
              obtain ⟨y, k⟩ := yk
              rw [ee] at hd'
              have ed : d = pairD (y, k) := (Option.some.inj hd').symm
              subst ed
              obtain ⟨g, rfl, hg⟩ := dt_pairD hx
              have adj : Adj ts h y k := (nbOf_adj ts h y k).mp (List.mem_of_getElem? ee)
              have et : (nbOf ts h).take (i + 1) = (nbOf ts h).take i ++ [(y, k)] := by
                rw [List.take_add_one, ee]
                rfl
              have fl' := nodup_sub_len fs' ps wk7.nd wk7.sub
              have szf : ∀ f : Nm → V, (dkm fs' f).length < sizeLine := fun f => by
                unfold dkm
                rw [List.length_map]
                exact sz_lt (by omega)
              refine ⟨g, _, rfl, SqT.of hg, rfl, _, _, rfl, _, _, rfl, rfl, ?_⟩
              refine ⟨_, rfl, _, rfl, bk, _, rfl, DGet.k (k := Sum.inr (S y)) hbk7, _, rfl, ?_⟩
              rw [dkm_some]
              by_cases hy : y ∈ fs'
              · rw [decide_eq_true hy]
                refine iteF ⟨fs', st'', prev', _, _, rfl, SM7, bs7, hw7, hbk7, hln7, hah7, wk7, le7, em7, hh7, fun p hp => ?_⟩
                rw [et] at hp
                rcases List.mem_append.mp hp with z | z
                · exact nb7 p z
                · rw [List.mem_singleton.mp z]
                  exact hy
              · rw [decide_eq_false hy]
                refine iteT ?_
                obtain ⟨e1, wk8⟩ := wk7.push tr hh7 (fine.cl _ _ _ (wk7.sub _ hh7) adj) hy
                -- back[place] = here
                refine ⟨_, rfl, _, rfl, _, rfl, bk, _, rfl, DPut.k (k := Sum.inr (S y)) hbk7 (szf _), ?_⟩
                rw [dkm_new hy]
                have SM8 := same_put (o := .dK (dkm (fs' ++ [y]) fun z => if z = y then V.str (S h) else .str (S (prev' z)))) SM7 bk0
                have bs8 := bs7.off (o := .dK (dkm (fs' ++ [y]) fun z => if z = y then V.str (S h) else .str (S (prev' z)))) (tkD hbk7) Dbk adbk
                have hln8 : (upd H' bk (.dK (dkm (fs' ++ [y]) fun z => if z = y then V.str (S h) else .str (S (prev' z))))) ln = some (.dK (dkm fs' fun x => .int (dist es u x))) := by rw [upd_ne bkln.symm]; exact hln7
                have hah8 : (upd H' bk (.dK (dkm (fs' ++ [y]) fun z => if z = y then V.str (S h) else .str (S (prev' z))))) ah = some (.lst ((st''.map S).map V.str)) := by rw [upd_ne bkah.symm]; exact hah7
                have hw8 : (upd H' bk (.dK (dkm (fs' ++ [y]) fun z => if z = y then V.str (S h) else .str (S (prev' z))))) (ad h) = some (.lst ws) := by rw [upd_ne (adbk h hpl)]; exact hw7
                have hbk8 : (upd H' bk (.dK (dkm (fs' ++ [y]) fun z => if z = y then V.str (S h) else .str (S (prev' z))))) bk = some (.dK (dkm (fs' ++ [y]) fun z => .str (S (if z = y then h else prev' z)))) := by
                  rw [upd_same]
                  exact congrArg (fun z => some (HO.dK z)) (dkm_cong fun z _ => by by_cases q : z = y <;> simp [q])
                generalize upd H' bk (.dK (dkm (fs' ++ [y]) fun z => if z = y then V.str (S h) else .str (S (prev' z)))) = H8 at SM8 bs8 hln8 hah8 hw8 hbk8
                -- lengths[place] = lengths[here] + length
                refine ⟨_, rfl, _, rfl, ln, .int (dist es u h), rfl, by rw [← dkm_get (f := fun x => V.int (dist es u x)) hh7]; exact DGet.k (k := Sum.inr (S h)) hln8, _, rfl, _, _, rfl, rfl, _, rfl, _, rfl, ln, _, rfl, DPut.k (k := Sum.inr (S y)) hln8 (szf _), ?_⟩
                rw [dkm_new hy]
                have SM9 := same_put (o := .dK (dkm (fs' ++ [y]) fun z => if z = y then V.int (dist es u h + k) else .int (dist es u z))) SM8 ln0
                have bs9 := bs8.off (o := .dK (dkm (fs' ++ [y]) fun z => if z = y then V.int (dist es u h + k) else .int (dist es u z))) (tkD hln8) Dln adln
                have hbk9 : (upd H8 ln (.dK (dkm (fs' ++ [y]) fun z => if z = y then V.int (dist es u h + k) else .int (dist es u z)))) bk = some (.dK (dkm (fs' ++ [y]) fun z => .str (S (if z = y then h else prev' z)))) := by rw [upd_ne bkln]; exact hbk8
                have hah9 : (upd H8 ln (.dK (dkm (fs' ++ [y]) fun z => if z = y then V.int (dist es u h + k) else .int (dist es u z)))) ah = some (.lst ((st''.map S).map V.str)) := by rw [upd_ne lnah.symm]; exact hah8
                have hw9 : (upd H8 ln (.dK (dkm (fs' ++ [y]) fun z => if z = y then V.int (dist es u h + k) else .int (dist es u z)))) (ad h) = some (.lst ws) := by rw [upd_ne (adln h hpl)]; exact hw8
                have hln9 : (upd H8 ln (.dK (dkm (fs' ++ [y]) fun z => if z = y then V.int (dist es u h + k) else .int (dist es u z)))) ln = some (.dK (dkm (fs' ++ [y]) fun z => .int (dist es u z))) := by
                  rw [upd_same]
                  refine congrArg (fun z => some (HO.dK z)) (dkm_cong fun z _ => ?_)
                  by_cases q : z = y
                  · rw [if_pos q, q, e1]
                  · rw [if_neg q]
                generalize upd H8 ln (.dK (dkm (fs' ++ [y]) fun z => if z = y then V.int (dist es u h + k) else .int (dist es u z))) = H9 at SM9 bs9 hbk9 hah9 hw9 hln9
                -- ahead.append(place)
                have stl : st''.length ≤ 3000 := by omega
                refine ⟨_, rfl, .inl ⟨rfl, _, SqL.of hah9⟩, _, rfl, ah, _, _, rfl, rfl, hah9, by rw [List.length_map, List.length_map]; exact sz_lt (by omega), ?_⟩
                refine ⟨fs' ++ [y], st'' ++ [y], _, _, _, rfl, same_put SM9 ah0, bs9.off (TK.mut hah9) Dah adah, by rw [upd_ne (adah h hpl)]; exact hw9, by rw [upd_ne bkah]; exact hbk9, by rw [upd_ne lnah]; exact hln9, ?_, wk8, by rw [List.length_append]; omega, by rw [List.length_append, List.length_append]; omega, List.mem_append_left _ hh7, fun p hp => ?_⟩
                · rw [upd_same, List.map_append, List.map_append]
                  rfl
                · rw [et] at hp
                  rcases List.mem_append.mp hp with z | z
                  · exact List.mem_append_left _ (nb7 p z)
                  · rw [List.mem_singleton.mp z]
                    exact List.mem_append_right _ (List.mem_singleton.mpr rfl)
          · obtain ⟨fs', st'', prev', y7, y8, rfl, SM7, bs7, hw7, hbk7, hln7, hah7, wk7, le7, em7, hh7, nb7⟩ := hP
            refine ⟨fs', st'', prev', _, _, _, rfl, SM7, bs7, hbk7, hln7, hah7, wk7.shut fun y k ha => ?_, le7, em7⟩
            rw [wl, List.take_length] at nb7
            exact nb7 _ ((nbOf_adj ts h y k).mpr (fine.inn _ _ _ ha))
    · obtain ⟨fs, prev, x6, x7, x8, rfl, SM, hbk5, hln5, wk⟩ := hM
      refine ⟨_, rfl, _, rfl, (by show 2 ≤ sizeLine; decide), fun p np => ?_⟩
      refine q _ p bk ln fs prev (same_new SM np) ⟨upd_same, by rw [upd_ne (ne_of_none hbk5 np)]; exact hbk5, by rw [upd_ne (ne_of_none hln5 np)]; exact hln5, wk.all tr, wk.pr⟩
def spWalk : Sp := fun vs H Q _ => ∃ (v : V) (pl : List Nm) (ts : List Tie) (u : Nm), vs = [v, .str (S u)] ∧ Dt H v (treeD pl ts) ∧ Fine pl ts ∧ u ∈ pl ∧ ∀ (H' : Hp) (q bk ln : Addr) (fs : List Nm) (prev : Nm → Nm), Same H H' → Walked H' q bk ln pl ts u fs prev → Q (.ref q) H'
theorem ok_walk_from {f : Addr} {fd : FuncData} (F : Fun K "walk_from" "walk_from" s_walk_from f fd) (C_ties_of_each : Cal P w K mg base 1 "_ties_of_each" spTies) : FnOk P w K mg base CX0 2 f fd ["tree", "start"] spWalk :=
  (ok_walk_fromC F C_ties_of_each).imp fun vs H Q E ⟨v, pl, ts, u, e, hd, fine, hu, q⟩ => ⟨v, pl, ts, pl, ts, u, e, hd, fine.comp, hu, q⟩
end
end Far

namespace Far
open PySem PySem.Spec PyProof.Rows L2
open C8 (pss_cut tCut)
open SX (S)
theorem inV_strsT (l : Nm) (ls : List Nm) : inV (.str (S l)) ((ls.map S).map V.str) = decide (l ∈ ls) := inV_strs l ls
theorem pl0_of {H : Hp} {v : V} {pl : List Nm} {ts : List Tie} (h : Dt H v (treeD pl ts)) : ∃ (t a b : Addr), v = .ref t ∧ H t = some (.tup [.ref a, .ref b]) ∧ TupAt H a ((pl.map S).map V.str) := by
  obtain ⟨t, a, b, vs, e, h1, h2, _⟩ := dt_tree h
  exact ⟨t, a, b, e, h1, h2⟩
abbrev s_check_places : Stmt := topS 10
abbrev N_check_places : List Str := ["tree", "names", "name"]
theorem sc_check_places : FnScope N_check_places ["tree", "names"] (defScope s_check_places) := ⟨rfl, rfl, rfl, by decide +kernel, rfl, by decide +kernel, by decide +kernel⟩
section
variable {P : Program} {w : World} {K : PySem.W.Frag} {mg : Str → Option Value} {base : Heap}
def spCheck : Sp := fun vs H Q _ => ∃ (v : V) (n : Addr) (pl ns : List Nm) (ts : List Tie), vs = [v, .ref n] ∧ Dt H v (treeD pl ts) ∧ H n = some (.tup ((ns.map S).map V.str)) ∧ (∀ x ∈ ns, x ∈ pl) ∧ Q .non H
theorem ok_check_places {f : Addr} {fd : FuncData} (F : Fun K "check_places" "check_places" s_check_places f fd) : FnOk P w K mg base CX0 1 f fd ["tree", "names"] spCheck := by
  refine F.ok sc_check_places (fun vs H Q E h => ?_) (fun cdv A outer s H vs Q E hr h => ?_)
  · obtain ⟨v, n, pl, ns, ts, rfl, _⟩ := h
    rfl
  · obtain ⟨v, n, pl, ns, ts, rfl, hd, hn, sub, q⟩ := h
    obtain ⟨t, a, b, rfl, ht, ha⟩ := pl0_of hd
    refine ⟨_, (pss_one (ps_for PassesOwn.never rfl (pi_tup (pv 1)) (pg_name (i := 2) sc_check_places.nd rfl (.inl rfl))
        (pss_one (ps_if (pt_cmpR op_notIn_seq (pv 2) (pe_ix ix_tup (pv 0) pe_int (fun _ _ => rfl)) rfl)
          (pss_one ps_never)
          pss_nil)))), ?_⟩
    refine ⟨_, rfl, n, rfl, ⟨_, SqT.of hn⟩, for_tup (K := K) (a := n) (xs := (ns.map S).map V.str) (fun i σ' H' => (∃ x2, σ' = [some (.ref t), some (.ref n), x2]) ∧ H' = H) ⟨⟨_, rfl⟩, rfl⟩ (fun i σ' H' _ hP => hP.2 ▸ SqT.of hn) (fun i x σ' H' hi hP => ?_) (fun σ' H' hP => hP.2 ▸ q)⟩
    obtain ⟨⟨x2, rfl⟩, rfl⟩ := hP
    obtain ⟨l, hl, rfl⟩ := strs_at (List.mem_of_getElem? hi)
    refine ⟨_, rfl, _, rfl, t, _, 0, .ref a, rfl, rfl, SqT.of ht, atI_nat (j := 0) rfl, a, _, rfl, .inr ha.sq, rfl, flat_strs pl, _, rfl, ?_⟩
    rw [inV_strs, decide_eq_true (sub l hl)]
    exact iteF ⟨⟨_, rfl⟩, rfl⟩
end
abbrev s_lengths_from : Stmt := topS 9
abbrev N_lengths_from : List Str := ["tree", "place", "_", "lengths", "name"]
theorem sc_lengths_from : FnScope N_lengths_from ["tree", "place"] (defScope s_lengths_from) := ⟨rfl, rfl, rfl, by decide +kernel, rfl, by decide +kernel, by decide +kernel⟩
section
variable {P : Program} {w : World} {K : PySem.W.Frag} {mg : Str → Option Value} {base : Heap}
def spLens : Sp := fun vs H Q _ => ∃ (v : V) (pl : List Nm) (ts : List Tie) (u : Nm), vs = [v, .str (S u)] ∧ Dt H v (treeD pl ts) ∧ Fine pl ts ∧ u ∈ pl ∧ ∀ (H' : Hp) (q : Addr), Same H H' → H q = none → H' q = some (.tup (pl.map fun x => .int (dist ts u x))) → Q (.ref q) H'
theorem lens_body {H1 : Hp} {q bk ln : Addr} {pl fs : List Nm} {ts : List Tie} {u : Nm} {prev : Nm → Nm} (W : Walked H1 q bk ln pl ts u fs prev) {x : Nm} (hx : x ∈ pl) {H' : Hp} (s : H' ln = H1 ln) : DGet H' ln (.str (S x)) (some (.int (dist ts u x))) := by
  have e := W.lens
  rw [← s] at e
  have := DGet.k (k := Sum.inr (S x)) e
  rw [dkm_get ((W.all x).mpr hx)] at this
  exact this
theorem ok_lengths_from {f : Addr} {fd : FuncData} (F : Fun K "lengths_from" "lengths_from" s_lengths_from f fd) (T : TxtW mg) (Ccheck_places : Cal P w K mg base 1 "check_places" spCheck) (Cwalk_from : Cal P w K mg base 2 "walk_from" spWalk) : FnOk P w K mg base CX0 3 f fd ["tree", "place"] spLens := by
  refine F.ok sc_lengths_from (fun vs H Q E h => ?_) (fun cdv A outer s H vs Q E hr h => ?_)
  · obtain ⟨v, pl, ts, u, rfl, _⟩ := h
    rfl
  · obtain ⟨v, pl, ts, u, rfl, hd, fine, hu, q⟩ := h
    obtain ⟨t, a, b, rfl, ht, ha⟩ := pl0_of hd
    refine ⟨_, (pss_cons (ps_expr (pe_c Ccheck_places hr (by decide) rfl (pa_cons (pv 0) (pa_cons (pe_tup (pa_cons (pv 1) pa_nil)) pa_nil))))
      (pss_cons (ps_asg (pe_c Cwalk_from hr (by decide) rfl (pa_cons (pv 0) (pa_cons (pv 1) pa_nil))) (pg_tup rfl (pgs_cons (pg_name (i := 2) sc_lengths_from.nd rfl (.inl rfl)) (pgs_cons (pg_name (i := 3) sc_lengths_from.nd rfl (.inr rfl)) pgs_nil))))
      (pss_one (ps_ret (pe_tupleOf (by rfl) T.tuple (pe_lc (own := [("name", 4)]) (g := gName 4) (tt := tYes) rfl sc_lengths_from.nd (pi_tup (pe_ix ix_tup (pv 0) pe_int (fun _ _ => rfl))) (blkOk_by (N := N_lengths_from) (sc := defScope s_lengths_from) (by decide +kernel)) (fun _ _ _ _ _ => pg_name (i := 4) sc_lengths_from.nd rfl (Or.inl rfl)) (fun _ _ _ _ _ => pts_nil) (fun _ _ _ _ _ => (pe_dget (hu_of hr) (pv 3) (pv 4) (fun _ _ => rfl))))))))), ?_⟩
    refine ⟨_, rfl, _, rfl, (by show 1 ≤ sizeLine; decide), fun p np => ?_⟩
    have s1 := same_new (o := .tup [.str (S u)]) (Same.refl H) np
    refine ⟨.ref t, p, pl, [u], ts, rfl, Dt.keep (TK.of s1) hd, upd_same, fun x hx => by rw [List.mem_singleton.mp hx]; exact hu, ?_⟩
    refine ⟨_, rfl, _, rfl, .ref t, pl, ts, u, rfl, Dt.keep (TK.of s1) hd, fine, hu, fun H1 g bk ln fs prev S1 W => ?_⟩
    have s2 := s1.trans S1
    refine ⟨g, _, rfl, SqT.of W.pair, rfl, _, _, rfl, _, _, rfl, rfl, ?_⟩
    refine ⟨_, rfl, t, _, 0, .ref a, rfl, rfl, SqT.of (s2 _ _ ht), atI_nat (j := 0) rfl, a, rfl, ⟨_, (ha.same s2).sq⟩, fun D nD => ?_⟩
    have Da : a ≠ D := (ha.same s2).ne nD
    have Dl : ln ≠ D := ne_of_none W.lens nD
    refine lc_tup (K := K) (a := a) (xs := (pl.map S).map V.str) (fun i H' => H' = upd H1 D (.lst ((pl.take i).map fun x => .int (dist ts u x)))) rfl (fun i H' _ hP => ?_) (fun i x H' hi hP => ?_) (fun H' hP => ?_)
    · rw [hP]
      exact ((ha.same s2).updN Da).sq
    · subst hP
      have pl1 := fine.len
      rw [List.getElem?_map, List.getElem?_map] at hi
      cases el : pl[i]? with
      | none =>
        rw [el] at hi
        cases hi
      | some l =>
        rw [el] at hi
        have ex : x = .str (S l) := (Option.some.inj hi).symm
        subst ex
        refine ⟨rfl, _, rfl, _, rfl, ln, .int (dist ts u l), rfl, lens_body W (List.mem_of_getElem? el) (upd_ne Dl), _, upd_same, by rw [List.length_map, List.length_take]; exact sz_lt (by omega), ?_⟩
        rw [upd_upd, List.take_add_one, el, List.map_append]
        rfl
    · subst hP
      rw [List.length_map, List.length_map, List.take_length]
      have s3 := same_new (o := .lst (pl.map fun x => V.int (dist ts u x))) s2 nD
      refine .inl ⟨D, _, rfl, SqL.of upd_same, fun r nr => ?_⟩
      exact q _ r (same_new s3 nr) (s3.free nr) upd_same
end
end Far

namespace Far
open PySem PySem.Spec PyProof.Rows L2
open C8 (pss_cut tCut)
open SX (S)
abbrev s_length_between : Stmt := topS 8
abbrev N_length_between : List Str := ["tree", "one", "other", "_", "lengths"]
theorem sc_length_between : FnScope N_length_between ["tree", "one", "other"] (defScope s_length_between) := ⟨rfl, rfl, rfl, by decide +kernel, rfl, by decide +kernel, by decide +kernel⟩
section
variable {P : Program} {w : World} {K : PySem.W.Frag} {mg : Str → Option Value} {base : Heap}
def spLen : Sp := fun vs H Q _ => ∃ (v : V) (pl : List Nm) (ts : List Tie) (u x : Nm), vs = [v, .str (S u), .str (S x)] ∧ Dt H v (treeD pl ts) ∧ Fine pl ts ∧ u ∈ pl ∧ x ∈ pl ∧ ∀ H' : Hp, Same H H' → Q (.int (dist ts u x)) H'
theorem ok_length_between {f : Addr} {fd : FuncData} (F : Fun K "length_between" "length_between" s_length_between f fd) (Ccheck_places : Cal P w K mg base 1 "check_places" spCheck) (Cwalk_from : Cal P w K mg base 2 "walk_from" spWalk) : FnOk P w K mg base CX0 3 f fd ["tree", "one", "other"] spLen := by
  refine F.ok sc_length_between (fun vs H Q E h => ?_) (fun cdv A outer s H vs Q E hr h => ?_)
  · obtain ⟨v, pl, ts, u, x, rfl, _⟩ := h
    rfl
  · obtain ⟨v, pl, ts, u, x, rfl, hd, fine, hu, hx, q⟩ := h
    refine ⟨_, (pss_cons (ps_expr (pe_c Ccheck_places hr (by decide) rfl (pa_cons (pv 0) (pa_cons (pe_tup (pa_cons (pv 1) (pa_cons (pv 2) pa_nil))) pa_nil))))
      (pss_cons (ps_asg (pe_c Cwalk_from hr (by decide) rfl (pa_cons (pv 0) (pa_cons (pv 1) pa_nil))) (pg_tup rfl (pgs_cons (pg_name (i := 3) sc_length_between.nd rfl (.inl rfl)) (pgs_cons (pg_name (i := 4) sc_length_between.nd rfl (.inl rfl)) pgs_nil))))
      (pss_one (ps_ret (pe_dget (hu_of hr) (pv 4) (pv 2) (fun _ _ => rfl)))))), ?_⟩
    refine ⟨_, rfl, _, rfl, _, rfl, (by show 2 ≤ sizeLine; decide), fun p np => ?_⟩
    have s1 := same_new (o := .tup [.str (S u), .str (S x)]) (Same.refl H) np
    refine ⟨v, p, pl, [u, x], ts, rfl, Dt.keep (TK.of s1) hd, upd_same, fun y hy => ?_, ?_⟩
    · rcases List.mem_cons.mp hy with z | z
      · exact z ▸ hu
      · exact (List.mem_singleton.mp z) ▸ hx
    refine ⟨_, rfl, _, rfl, v, pl, ts, u, rfl, Dt.keep (TK.of s1) hd, fine, hu, fun H1 g bk ln fs prev S1 W => ?_⟩
    refine ⟨g, _, rfl, SqT.of W.pair, rfl, _, _, rfl, _, _, rfl, rfl, ?_⟩
    exact ⟨_, rfl, _, rfl, ln, _, rfl, lens_body W hx rfl, q H1 (s1.trans S1)⟩
end
abbrev s_way_between : Stmt := topS 7
abbrev N_way_between : List Str := ["tree", "one", "other", "back", "_", "way"]
theorem sc_way_between : FnScope N_way_between ["tree", "one", "other"] (defScope s_way_between) := ⟨rfl, rfl, rfl, by decide +kernel, rfl, by decide +kernel, by decide +kernel⟩
section
variable {P : Program} {w : World} {K : PySem.W.Frag} {mg : Str → Option Value} {base : Heap}
def spWay : Sp := fun vs H Q _ => ∃ (v : V) (pl : List Nm) (ts : List Tie) (u x : Nm), vs = [v, .str (S u), .str (S x)] ∧ Dt H v (treeD pl ts) ∧ Fine pl ts ∧ u ∈ pl ∧ x ∈ pl ∧ ∀ (H' : Hp) (q : Addr), Same H H' → H q = none → H' q = some (.tup (((path ts u x).map S).map V.str)) → Q (.ref q) H'
theorem path_len {pl : List Nm} {ts : List Tie} (F : Fine pl ts) {u x : Nm} (hu : u ∈ pl) (hx : x ∈ pl) : (path ts u x).length ≤ 1000 := by
  have w := F.tree.the_way hu hx
  have := nodup_sub_len _ pl w.nodup (w.inside (fun e he => let ⟨a, b, _⟩ := F.tree.ties e he; ⟨a, b⟩) hu)
  have := F.len
  omega
theorem ok_way_between {f : Addr} {fd : FuncData} (F : Fun K "way_between" "way_between" s_way_between f fd) (T : TxtW mg) (Ccheck_places : Cal P w K mg base 1 "check_places" spCheck) (Cwalk_from : Cal P w K mg base 2 "walk_from" spWalk) : FnOk P w K mg base CX0 3 f fd ["tree", "one", "other"] spWay := by
  refine F.ok sc_way_between (fun vs H Q E h => ?_) (fun cdv A outer s H vs Q E hr h => ?_)
  · obtain ⟨v, pl, ts, u, x, rfl, _⟩ := h
    rfl
  · obtain ⟨v, pl, ts, u, x, rfl, hd, fine, hu, hx, q⟩ := h
    have tr := fine.tree
    refine ⟨_, (pss_cons (ps_expr (pe_c Ccheck_places hr (by decide) rfl (pa_cons (pv 0) (pa_cons (pe_tup (pa_cons (pv 1) (pa_cons (pv 2) pa_nil))) pa_nil))))
      (pss_cons (ps_asg (pe_c Cwalk_from hr (by decide) rfl (pa_cons (pv 0) (pa_cons (pv 2) pa_nil))) (pg_tup rfl (pgs_cons (pg_name (i := 3) sc_way_between.nd rfl (.inl rfl)) (pgs_cons (pg_name (i := 4) sc_way_between.nd rfl (.inl rfl)) pgs_nil))))
      (pss_cons (ps_set (i := 5) sc_way_between.nd rfl (.inl rfl) (pe_lst (pa_cons (pv 1) pa_nil)))
      (pss_cut (ps_while PassesOwn.never (pt_cmpR op_ne (pe_ix ix_list (pv 5) (pe_un un_neg pe_int) (fun _ _ => rfl)) (pv 2) (nomark _))
        (pss_one (ps_expr (pe_bm PySem.F.plainAttrs_list PySem.F.slot_list_append PySem.F.type_list_append mt_append (pv 5) (pa_cons (pe_dget (hu_of hr) (pv 3) (pe_ix ix_list (pv 5) (pe_un un_neg pe_int) (fun _ _ => rfl)) (fun _ _ => rfl)) pa_nil)))))
      (pss_one (ps_ret (pe_tupleOf (by rfl) T.tuple (pv 5)))))))), ?_⟩
    refine ⟨_, rfl, _, rfl, _, rfl, (by show 2 ≤ sizeLine; decide), fun p np => ?_⟩
    have s1 := same_new (o := .tup [.str (S u), .str (S x)]) (Same.refl H) np
    refine ⟨v, p, pl, [u, x], ts, rfl, Dt.keep (TK.of s1) hd, upd_same, fun y hy => ?_, ?_⟩
    · rcases List.mem_cons.mp hy with z | z
      · exact z ▸ hu
      · exact (List.mem_singleton.mp z) ▸ hx
    refine ⟨_, rfl, _, rfl, v, pl, ts, x, rfl, Dt.keep (TK.of s1) hd, fine, hx, fun H1 g bk ln fs prev S1 W => ?_⟩
    have s2 := s1.trans S1
    refine ⟨g, _, rfl, SqT.of W.pair, rfl, _, _, rfl, _, _, rfl, rfl, ?_⟩
    refine ⟨_, rfl, (by show 1 ≤ sizeLine; decide), fun wy nwy => ?_⟩
    have bw : bk ≠ wy := ne_of_none W.back nwy
    refine ⟨fun σ' H' => σ' = [some v, some (.str (S u)), some (.str (S x)), some (.ref bk), some (.ref ln), some (.ref wy)] ∧ H' = upd H1 wy (.lst (((path ts u x).map S).map V.str)), ?_, fun σ' H' hM => ?_⟩
    · refine ⟨fun m σ' H' => ∃ (w0 : List Nm) (y : Nm), σ' = [some v, some (.str (S u)), some (.str (S x)), some (.ref bk), some (.ref ln), some (.ref wy)] ∧ y ∈ pl ∧ H' = upd H1 wy (.lst ((((w0 ++ [y])).map S).map V.str)) ∧ w0 ++ (path ts x y).reverse = (path ts x u).reverse ∧ m = (path ts x y).length, ⟨_, [], u, rfl, hu, rfl, rfl, rfl⟩, ?_⟩
      rintro m σ' H' ⟨w0, y, rfl, hy, rfl, hw, rfl⟩
      have e1 : ((w0 ++ [y]).map S).map V.str = (w0.map S).map V.str ++ [.str (S y)] := by
        rw [List.map_append, List.map_append]
        rfl
      rw [e1]
      refine ⟨_, rfl, 1, rfl, wy, _, -1, .str (S y), rfl, rfl, SqL.of upd_same, atI_last _ _, _, rfl, rfl, _, rfl, ?_⟩
      have lw : w0.length ≤ 1000 := by
        have := congrArg List.length hw
        rw [List.length_append, List.length_reverse, List.length_reverse] at this
        have := path_len fine hx hu
        omega
      by_cases e : y = x
      · subst e
        rw [decide_eq_true rfl]
        refine iteF ⟨rfl, ?_⟩
        rw [← e1, (tr.dist_self y).2] at *
        have e3 : w0 ++ [y] = path ts u y := by
          rw [(tr.dist_symm hx hu).2, ← hw]
          rfl
        rw [e3]
      · rw [decide_eq_false (fun z => e (SX.S_inj (V.str.inj z)))]
        obtain ⟨p1, p2⟩ := W.pr y ((W.all y).mpr hy) e
        refine iteT ⟨fun σ' H' => ∃ (w0' : List Nm) (y' : Nm), σ' = [some v, some (.str (S u)), some (.str (S x)), some (.ref bk), some (.ref ln), some (.ref wy)] ∧ y' ∈ pl ∧ H' = upd H1 wy (.lst ((((w0' ++ [y'])).map S).map V.str)) ∧ w0' ++ (path ts x y').reverse = (path ts x u).reverse ∧ (path ts x y').length < (path ts x y).length, ?_, ?_⟩
        · rintro σ' H' ⟨w0', y', h1, h2, h3, h4, h5⟩
          exact ⟨_, h5, w0', y', h1, h2, h3, h4, rfl⟩
        · have hb : DGet (upd H1 wy (.lst ((w0.map S).map V.str ++ [.str (S y)]))) bk (.str (S y)) (some (.str (S (prev y)))) := by
            have e5 : (upd H1 wy (.lst ((w0.map S).map V.str ++ [V.str (S y)]))) bk = some (.dK (dkm fs fun x => .str (S (prev x)))) := by
              rw [upd_ne bw]
              exact W.back
            have := DGet.k (k := Sum.inr (S y)) e5
            rw [dkm_get ((W.all y).mpr hy)] at this
            exact this
          refine ⟨_, rfl, .inl ⟨rfl, _, SqL.of upd_same⟩, _, rfl, _, rfl, 1, rfl, wy, _, -1, .str (S y), rfl, rfl, SqL.of upd_same, atI_last _ _, bk, _, rfl, hb, wy, _, _, rfl, rfl, upd_same, by rw [List.length_append, List.length_map, List.length_map]; exact sz_lt (by simp; omega), ?_⟩
          refine ⟨w0 ++ [y], prev y, rfl, (W.all _).mp p1, ?_, ?_, ?_⟩
          · have e6 : (((w0 ++ [y]) ++ [prev y]).map S).map V.str = ((w0 ++ [y]).map S).map V.str ++ [.str (S (prev y))] := by
              rw [List.map_append, List.map_append]
              rfl
            rw [upd_upd, ← e1, e6]
          · rw [← hw, p2, List.reverse_append]
            simp
          · rw [p2]
            simp
    · obtain ⟨rfl, rfl⟩ := hM
      have s3 := same_new (o := .lst (((path ts u x).map S).map V.str)) s2 nwy
      refine ⟨_, rfl, .inl ⟨wy, _, rfl, SqL.of upd_same, fun r nr => ?_⟩⟩
      exact q _ r (same_new s3 nr) (s3.free nr) upd_same
end
end Far

namespace Far
open PySem PySem.Spec PyProof.Rows L2
/-! ### enumerate(t), t a tuple -/
theorem meets_enumT {v : Value} {o : Obj} {H : Heap → Prop} (B : Begins v o H) :
    Meets (Builtin.«enumerate.__new__» ⟨[.type "enumerate", v], []⟩) (fun _ R s => H s.heap ∧
      R (.ok (.ret (.ref (s.heap.push o).objs.size))) { s with heap := (s.heap.push o).push { cls := .type "enumerate", data := .fields #[.none, .bool false, .ref s.heap.objs.size, rawInt 0, .none, .none] } }) :=
  .of_wp fun prog w A R s h => by
    obtain ⟨hp, g, d, tk, os⟩ := s; obtain ⟨h1, h⟩ := h
    have hsub := sub_enumerate
    have q1 : ∀ {A' : Around} {E : Value → Shared → Prop} {Q : Value → Shared → Prop}, Q (.ref hp.objs.size) ⟨hp.push o, g, d, tk, os⟩ → wpAny (model prog w) A' (pyIter v) Q E ⟨hp, g, d, tk, os⟩ :=
      fun q => B.iter prog w _ _ ⟨hp, g, d, tk, os⟩ _ h1 q
    wp_walk using q1
    refine wpAny_stack_any fun st => wpAny_pure ?_
    split
    · rename_i c _ _ _ _ _
      cases (c == Value.type "enumerate")
      · wp_walk using q1
        exact ⟨_, rfl, h⟩
      · wp_walk using q1
        exact ⟨_, rfl, h⟩
    · wp_walk using q1
      exact ⟨_, rfl, h⟩
theorem enumT_begins {prog : Program} {w : World} {A : Around} {E : Value → Shared → Prop} {s : Shared} {v : Value} {o : Obj} {H : Heap → Prop} {Q : Value → Shared → Prop} (B : Begins v o H) (h1 : H s.heap)
    (h : ∀ h', IsEnum h' (s.heap.objs.size + 1) s.heap.objs.size 0 .none → h'.get? s.heap.objs.size = some o → h'.objs.size = s.heap.objs.size + 2 →
      (∀ b o, s.heap.get? b = some o → h'.get? b = some o) → Q (.ref (s.heap.objs.size + 1)) { s with heap := h' }) :
    wpAny (model prog w) A (call (.type "enumerate") [v]) Q E s := by
  refine callType_new F.called_enumerate (by decide) (F.typeCall_enumerate_1 _) (F.newCall_enumerate_1 _) (fun obj => F.args_object_init_2 obj _) F.entry_enumerate_new
    (meets_enumT B) ⟨h1, ?_⟩
  have hz : (s.heap.push o).objs.size = s.heap.objs.size + 1 := Heap.size_push ..
  show _ ∧ _
  rw [hz]
  have he : IsEnum ((s.heap.push o).push { cls := .type "enumerate", data := .fields #[.none, .bool false, .ref s.heap.objs.size, rawInt 0, .none, .none] }) (s.heap.objs.size + 1) s.heap.objs.size 0 .none := by
    have := Heap.get?_push_size (s.heap.push o) (o := { cls := .type "enumerate", data := .fields #[.none, .bool false, .ref s.heap.objs.size, rawInt 0, .none, .none] }) rfl
    rw [hz] at this; exact this
  refine ⟨⟨_, he, rfl⟩, h _ he (Heap.get?_push_of_some _ (Heap.get?_push_size _ B.free)) (by rw [Heap.size_push, hz]) fun b o x => Heap.get?_push_of_some _ (Heap.get?_push_of_some _ x)⟩
/-- the tuple at a, each item in a new pair with its number -/
def Itne (K : PySem.W.Frag) (a : Addr) : It :=
  ⟨fun i H => ∃ (xs : List V) (x : V), SqT K H a xs ∧ xs[i]? = some x,
   fun i H v H' => ∃ T x, v = .ref T ∧ H T = none ∧ H' = upd H T (.tup [.int (i : Nat), x]) ∧ ∀ xs, SqT K H a xs → xs[i]? = some x,
   fun i H => ∃ xs : List V, SqT K H a xs ∧ xs.length ≤ i⟩
theorem turn_enumT {P : Program} {w : World} {K : PySem.W.Frag} {elts : List Expr} {kk : Nat} {tpos : Pos} (a e it : Addr) :
    Turn P w K (.Tuple elts kk tpos) (Itne K a) [e, it] e (fun i h => (∃ o, IsEnum h e it ((i : Nat) : Int) o) ∧ h.IsTupleIter it a i ∧ e ≠ it ∧ a ≠ it) where
  mem := by simp
  obj := fun i h st b hb => by
    obtain ⟨⟨o', he⟩, ⟨o, ho, hc, hd⟩, _⟩ := st
    rcases (show b = e ∨ b = it by simpa using hb) with rfl | rfl
    · exact ⟨_, he, fun v q => nomatch q⟩
    · exact ⟨o, ho, fun v q => by rw [hd] at q; cases q⟩
  keep := fun i h h' ⟨⟨o, he⟩, hi, hne⟩ k => ⟨⟨o, k e (by simp) _ he⟩, hi.at fun o q => k it (by simp) o q, hne⟩
  item := by
    intro X hP hw hK hc i pins s σ H E I hf st hg
    subst hP hw hK
    obtain ⟨⟨old, he⟩, hit, hne, hna⟩ := st
    obtain ⟨xs, x, hq, hx⟩ := hg
    obtain ⟨its, rv, p, hz⟩ := I.tuple hq
    have p' : s.heap.IsTuple a its.toArray := p
    obtain ⟨u, hu, ru⟩ := rv.get hx
    have hel : e < s.heap.objs.size := Heap.lt_size he
    have hil : it < s.heap.objs.size := by
      obtain ⟨_, q, _⟩ := hit
      exact Heap.lt_size q
    have hea : e ∉ [it, a] := by
      intro hm
      rcases List.mem_cons.mp hm with z | z
      · exact hne z
      · have z := List.mem_singleton.mp z
        obtain ⟨o, m, q, _⟩ := p'
        rw [← z, he] at m
        cases m
        have q : Value.type "enumerate" = Value.type "tuple" := q
        exact absurd q (by decide)
    have hlt : i < its.toArray.size := by
      have := (List.getElem?_eq_some_iff.mp hu).1
      simpa using this
    refine wpAny_pyNext_enum_itemC (Draws.tuple (A := X.A.in1) (I.ok.hd hc) it a hna its.toArray) he ⟨hit, p'⟩ hlt hne hea fun x' h' tk hx' ho hst' hT hsz hk => ?_
    have ex : x' = u := by
      have : its.toArray[i]? = some u := by simpa using hu
      exact Option.some.inj (hx'.symm.trans this)
    subst ex
    refine ⟨_, rfl, wpAny_letOwnedTupleGo_enum (s := { s with heap := h', toks := tk + 1 }) ho fun h2 he2 sb => ?_⟩
    have hT2 : h2.get? s.heap.objs.size = some { cls := .type "tuple", data := .seq #[.int (i : Nat) tk, x'] } := (sb.2 _ (Nat.ne_of_gt hel)).trans hT
    have new : ObjOk X.prog X.w (upd H s.heap.objs.size (.tup [.int (i : Nat), x])) h2 s.heap.objs.size (.tup [.int (i : Nat), x]) :=
      ⟨by show 2 ≤ sizeLine; decide, [.int (i : Nat) tk, x'], .cons ⟨_, rfl⟩ (.cons ru .nil), ⟨_, hT2, rfl, _, rfl⟩⟩
    have I1 : Inv X pins σ (upd H s.heap.objs.size (.tup [.int (i : Nat), x])) { s with heap := h2, toks := tk + 1 } :=
      I.turnedNew (ch := [e, it]) (fun b ob hb q => (sb.2 b (fun z => hb (by simp [z]))).trans (hk b ob (fun z => hb (by simp [z])) (fun z => hb (by simp [z])) q)) hf (Nat.le_refl _) new
    refine ⟨.ref s.heap.objs.size, _, I1, rfl, ⟨_, x, rfl, I.hok.fresh (Nat.le_refl _), rfl, fun ys hy => by rw [I.tuple_inj hy hq]; exact hx⟩, ⟨⟨x', ?_⟩, hst'.1.at fun o q => (sb.2 it (Ne.symm hne)).trans q, hne, hna⟩, fun b hb => ?_⟩
    · rw [show ((i + 1 : Nat) : Int) = (i : Nat) + 1 by omega]
      exact he2
    · have hb' : b < s.heap.objs.size := by
        rcases (show b = e ∨ b = it by simpa using hb) with z | z
        · rw [z]; exact hel
        · rw [z]; exact hil
      rw [upd_ne (Nat.ne_of_lt hb')]
      exact (hf b hb).1
  done := by
    intro X hP hw hK hc i pins s σ H E I hf st hg
    subst hP hw hK
    obtain ⟨⟨old, he⟩, hit, hne, hna⟩ := st
    obtain ⟨xs, hq, hx⟩ := hg
    obtain ⟨its, rv, p, hz⟩ := I.tuple hq
    have p' : s.heap.IsTuple a its.toArray := p
    obtain ⟨f0, f1, f2, f3, f4, f5⟩ := hf it (by simp)
    have hl := rv.length
    have D : Draws X.prog X.w X.A.in1 it [it, a] i (fun _ _ => True) (fun j h => (h.IsTupleIter it a j ∧ h.IsTuple a its.toArray) ∧ j = i) :=
      { live := fun _ _ st => let ⟨o, ho, _⟩ := st.1.1; ⟨o, ho⟩
        frame := fun _ _ _ st hk => ⟨⟨st.1.1.at fun o e => hk it (by simp) o e, st.1.2.at fun o e => hk a (by simp) o e⟩, st.2⟩
        item := fun j _ _ _ hj st _ => absurd st.2 (by omega)
        done := fun s Q E st hE => wpAny_nextOf_tuple_end (I.ok.hd hc) st.1.1 st.1.2 (by simp; omega) hE }
    exact wpAny_pyNext_enum_endD D he ⟨⟨hit, p'⟩, rfl⟩ fun h' eb => ⟨rfl, I.turned (t' := s.toks) (fun b o hb q => eb b o hb q) f0 f1 f3 f4 f5⟩
  self := fun A i s Q E st h => by
    obtain ⟨⟨_, he⟩, _⟩ := st
    exact wpAny_pyIter_enum he h
def iEnumT (K : PySem.W.Frag) (ta : TA) : TI := fun σ H R => ta σ H fun vs H1 => ∃ a xs, vs = [.ref a] ∧ SqT K H1 a xs ∧ R (Itne K a) H1
theorem pi_enumT {X : Cx} {e : Expr} {ta : TA} {p pos tpos : Pos} {elts : List Expr} {kk : Nat} (hg : Gl X "enumerate") (hm : X.mg "enumerate" = none) (ha : PA X [e] ta) (hs : starEach [e] X.env = [(false, eval e X.env)] := by rfl) :
    PI X (.Tuple elts kk tpos) (.Call (.Name "enumerate" p) [e] [] pos) (iEnumT X.K ta) := by
  refine ⟨fun pins s σ H R I h => ?_⟩
  refine Call_ (ld_blt I hg hm boot_enumerate (PyProof.Rows.callWith_type1 (thn (ha.run pos pins s σ H _ I h) fun us s1 ⟨vs, H1, I1, r1, q1⟩ => ?_) hs rfl))
  obtain ⟨a, xs, ex, hq, q⟩ := q1
  subst ex
  cases r1 with
  | cons r rr =>
    cases rr
    cases r
    obtain ⟨its, rv, p', hz⟩ := I1.tuple hq
    have p2 : s1.heap.IsTuple a its.toArray := p'
    refine enumT_begins (begins_tuple a its.toArray) p2 fun h' he hit hsz hk => wpAny_pyIter_enum he ?_
    have I2 : Inv X pins σ H1 { s1 with heap := h' } := I1.kept (t' := s1.toks) hk
    have hal : a < s1.heap.objs.size := by
      obtain ⟨o, m, _⟩ := p2
      exact Heap.lt_size m
    refine ⟨s1.heap.objs.size + 1, [s1.heap.objs.size + 1, s1.heap.objs.size], _, _, H1, rfl, I2, turn_enumT a (s1.heap.objs.size + 1) s1.heap.objs.size, ⟨⟨.none, by simpa using he⟩, ⟨_, hit, rfl, rfl⟩, Nat.succ_ne_self _, Nat.ne_of_lt hal⟩, fun b hb => ?_, q⟩
    have hle : s1.heap.objs.size ≤ b := by
      rcases (show b = s1.heap.objs.size + 1 ∨ b = s1.heap.objs.size by simpa using hb) with z | z
      · rw [z]; exact Nat.le_add_right _ _
      · rw [z]; exact Nat.le_refl _
    exact I1.fpOk hle (I1.hok.fresh hle)
end Far

namespace Far
open PySem PySem.Spec PyProof.Rows PyProof.V L2
/-! ### max, min, sum of a tuple of whole numbers -/
section
variable {prog : Program} {w : World} {A : Around} {E : Value → Shared → Prop} {s : Shared} {t : Addr} {xs : Array (Int × Tok)}
theorem iter_intTup {Q : Value → Shared → Prop} (hl : s.heap.IsTuple t (intItems xs))
    (h : ∀ s₂ : Shared, s₂ = { s with heap := s.heap.push { cls := .type "tuple_iterator", data := .fields #[.ref t, .int 0 0] } } →
      (s₂.heap.IsTupleIter s.heap.objs.size t 0 ∧ s₂.heap.IsTuple t (intItems xs)) → (∀ b ∈ [s.heap.objs.size, t], b < s₂.heap.objs.size) → t ≠ s.heap.objs.size → Q (.ref s.heap.objs.size) s₂) : wpAny (model prog w) A (pyIter (.ref t)) Q E s := by
  have hlt : t < s.heap.objs.size := by obtain ⟨_, e, _⟩ := hl; exact Heap.lt_size e
  refine wpAny_pyIter_tuple hl (h _ rfl ⟨⟨_, Heap.get?_push_size _ rfl, rfl, rfl⟩, hl.at fun o e => Heap.get?_push_of_some _ e⟩ (fun b hb => ?_) (Nat.ne_of_lt hlt))
  show b < (s.heap.push _).objs.size
  rw [Heap.size_push]
  rcases List.mem_cons.mp hb with rfl | hb
  · exact Nat.lt_succ_self _
  · rcases List.mem_cons.mp hb with rfl | hb
    · exact Nat.lt_succ_of_lt hlt
    · cases hb
theorem old_keptT {s : Shared} {o : Obj} {h' : Heap} (k : ∀ b o', b ∉ [s.heap.objs.size] → (s.heap.push o).get? b = some o' → h'.get? b = some o') : ∀ b o', s.heap.get? b = some o' → h'.get? b = some o' :=
  fun b o' e => k b o' (fun hb => absurd (Heap.lt_size e) ((List.mem_singleton.mp hb) ▸ Nat.lt_irrefl _)) (Heap.get?_push_of_some _ e)
theorem max_intTup {Q : Value → Shared → Prop} (hh : A.handled = none) (hl : s.heap.IsTuple t (intItems xs)) (hne : 0 < xs.size)
    (h : ∀ v h' tk, (intItems xs)[argBest (fun i j => decide (numAt xs i > numAt xs j)) (xs.size - 1)]? = some v → (∀ b o, s.heap.get? b = some o → h'.get? b = some o) → Q v { s with heap := h', toks := tk }) :
    wpAny (model prog w) A (call (.builtin "max") [.ref t]) Q E s := by
  refine call_max_walk (iter_intTup hl fun s₂ e st hfp hlI => ?_)
  subst e
  refine ⟨_, _, _, _, _, _, _, rfl, Walks.tuple (A := A.in1) hh _ t hlI (intItems xs), st, hfp, by simpa [intItems] using hne, CmpOf.ints_gt (numAt xs) (fun _ _ => intItems_at), fun v h' tk hP hk => ?_⟩
  exact h v h' tk (by simpa [intItems] using hP) (old_keptT hk)
theorem min_intTup {Q : Value → Shared → Prop} (hh : A.handled = none) (hl : s.heap.IsTuple t (intItems xs)) (hne : 0 < xs.size)
    (h : ∀ v h' tk, (intItems xs)[argBest (fun i j => decide (numAt xs i < numAt xs j)) (xs.size - 1)]? = some v → (∀ b o, s.heap.get? b = some o → h'.get? b = some o) → Q v { s with heap := h', toks := tk }) :
    wpAny (model prog w) A (call (.builtin "min") [.ref t]) Q E s := by
  refine call_min_walk (iter_intTup hl fun s₂ e st hfp hlI => ?_)
  subst e
  refine ⟨_, _, _, _, _, _, _, rfl, Walks.tuple (A := A.in1) hh _ t hlI (intItems xs), st, hfp, by simpa [intItems] using hne, CmpOf.ints_lt (numAt xs) (fun _ _ => intItems_at), fun v h' tk hP hk => ?_⟩
  exact h v h' tk (by simpa [intItems] using hP) (old_keptT hk)
variable {its : List Value} {ns : List Int}
theorem maxT_raw {Q : Value → Shared → Prop} (hh : A.handled = none) (hl : s.heap.IsTuple t its.toArray) (hi : IntsAre its ns) (hne : 0 < ns.length)
    (h : ∀ h' tk M t', (∀ b o, s.heap.get? b = some o → h'.get? b = some o) → M ∈ ns → (∀ a, a ∈ ns → a ≤ M) → Q (.int M t') { s with heap := h', toks := tk }) : wpAny (model prog w) A (call (.builtin "max") [.ref t]) Q E s := by
  obtain ⟨xs, e⟩ := hi.allInts.items
  have hn : numsOf (intItems xs).toList = ns := by rw [← e]; exact hi.numsOf
  rw [nums_intItems] at hn
  subst hn
  rw [e] at hl
  have hsz : 0 < xs.size := by simpa using hne
  refine max_intTup hh hl hsz fun v h' tk hv hk => ?_
  obtain ⟨t, rfl⟩ := intItems_at hv
  obtain ⟨h1, h2⟩ := argBest_gt (numAt xs) (xs.size - 1)
  refine h h' tk _ t hk ?_ fun a ha => ?_
  · rw [numAt_eq]; exact PySem.getD_mem (by rw [List.length_map, Array.length_toList]; omega)
  · obtain ⟨j, hj, rfl⟩ := mem_getD ha
    rw [List.length_map, Array.length_toList] at hj
    rw [← numAt_eq]; exact h2 j (by omega)
theorem minT_raw {Q : Value → Shared → Prop} (hh : A.handled = none) (hl : s.heap.IsTuple t its.toArray) (hi : IntsAre its ns) (hne : 0 < ns.length)
    (h : ∀ h' tk M t', (∀ b o, s.heap.get? b = some o → h'.get? b = some o) → M ∈ ns → (∀ a, a ∈ ns → M ≤ a) → Q (.int M t') { s with heap := h', toks := tk }) : wpAny (model prog w) A (call (.builtin "min") [.ref t]) Q E s := by
  obtain ⟨xs, e⟩ := hi.allInts.items
  have hn : numsOf (intItems xs).toList = ns := by rw [← e]; exact hi.numsOf
  rw [nums_intItems] at hn
  subst hn
  rw [e] at hl
  have hsz : 0 < xs.size := by simpa using hne
  refine min_intTup hh hl hsz fun v h' tk hv hk => ?_
  obtain ⟨t, rfl⟩ := intItems_at hv
  obtain ⟨h1, h2⟩ := argBest_lt (numAt xs) (xs.size - 1)
  refine h h' tk _ t hk ?_ fun a ha => ?_
  · rw [numAt_eq]; exact PySem.getD_mem (by rw [List.length_map, Array.length_toList]; omega)
  · obtain ⟨j, hj, rfl⟩ := mem_getD ha
    rw [List.length_map, Array.length_toList] at hj
    rw [← numAt_eq]; exact h2 j (by omega)
theorem sumT_raw {Q : Value → Shared → Prop} (hh : A.handled = none) (hl : s.heap.IsTuple t its.toArray) (hi : IntsAre its ns)
    (h : ∀ h' tk t', (∀ b o, s.heap.get? b = some o → h'.get? b = some o) → Q (.int ns.sum t') { s with heap := h', toks := tk }) : wpAny (model prog w) A (call (.builtin "sum") [.ref t]) Q E s := by
  obtain ⟨xs, e⟩ := hi.allInts.items
  have hn : numsOf (intItems xs).toList = ns := by rw [← e]; exact hi.numsOf
  rw [nums_intItems] at hn
  rw [e] at hl
  refine PySem.W.ktm_sumG hh hl fun h' tk t' hk => ?_
  have := h h' tk t' hk
  rw [preSum_eq, List.take_of_length_le (by simp), hn]; exact this
end
section
variable {X : Cx}
def rMaxT (K : PySem.W.Frag) : List V → Hp → VK → Prop := fun vs H Q => ∃ (a : Addr) (ns : List Int), vs = [V.ref a] ∧ SqT K H a (ns.map V.int) ∧ 0 < ns.length ∧ ∀ m, m ∈ ns → (∀ y, y ∈ ns → y ≤ m) → Q (.int m) H
def rMinT (K : PySem.W.Frag) : List V → Hp → VK → Prop := fun vs H Q => ∃ (a : Addr) (ns : List Int), vs = [V.ref a] ∧ SqT K H a (ns.map V.int) ∧ 0 < ns.length ∧ ∀ m, m ∈ ns → (∀ y, y ∈ ns → m ≤ y) → Q (.int m) H
def rSumT (K : PySem.W.Frag) : List V → Hp → VK → Prop := fun vs H Q => ∃ (a : Addr) (ns : List Int), vs = [V.ref a] ∧ SqT K H a (ns.map V.int) ∧ Q (.int ns.sum) H
theorem cr_maxT {K : PySem.W.Frag} (hc : X.calm = true) (eK : X.K = K := by rfl) : CallR X (.builtin "max") (rMaxT K) := by
  subst eK
  intro pins s σ H vs us Q I r h
  obtain ⟨a, ns, rfl, hs, hne, q⟩ := h
  obtain ⟨its, rv, hl, _⟩ := I.tuple hs
  rw [Vals.ref1 r]
  exact maxT_raw (I.ok.hd hc) hl rv.ints hne fun h' tk m t' hk h1 h2 => ⟨.int _, H, I.kept hk, ⟨_, rfl⟩, q m h1 h2⟩
theorem cr_minT {K : PySem.W.Frag} (hc : X.calm = true) (eK : X.K = K := by rfl) : CallR X (.builtin "min") (rMinT K) := by
  subst eK
  intro pins s σ H vs us Q I r h
  obtain ⟨a, ns, rfl, hs, hne, q⟩ := h
  obtain ⟨its, rv, hl, _⟩ := I.tuple hs
  rw [Vals.ref1 r]
  exact minT_raw (I.ok.hd hc) hl rv.ints hne fun h' tk m t' hk h1 h2 => ⟨.int _, H, I.kept hk, ⟨_, rfl⟩, q m h1 h2⟩
theorem cr_sumT {K : PySem.W.Frag} (hc : X.calm = true) (eK : X.K = K := by rfl) : CallR X (.builtin "sum") (rSumT K) := by
  subst eK
  intro pins s σ H vs us Q I r h
  obtain ⟨a, ns, rfl, hs, q⟩ := h
  obtain ⟨its, rv, hl, _⟩ := I.tuple hs
  rw [Vals.ref1 r]
  exact sumT_raw (I.ok.hd hc) hl rv.ints fun h' tk t' hk => ⟨.int _, H, I.kept hk, ⟨_, rfl⟩, q⟩
theorem cr_maxL {K : PySem.W.Frag} (hc : X.calm = true) (eK : X.K = K := by rfl) : CallR X (.builtin "max") (rMax K) := by subst eK; exact cr_max hc
theorem cr_minL {K : PySem.W.Frag} (hc : X.calm = true) (eK : X.K = K := by rfl) : CallR X (.builtin "min") (rMin K) := by subst eK; exact cr_min hc
theorem cr_sumL {K : PySem.W.Frag} (hc : X.calm = true) (eK : X.K = K := by rfl) : CallR X (.builtin "sum") (rSum K) := by subst eK; exact cr_sum hc
end
end Far

namespace Far
open PySem PySem.Spec PyProof.Rows L2
open C8 (pss_cut tCut)
open SX (S)
end Far

namespace Far
open PySem PySem.Spec PyProof.Rows L2
open C8 (pss_cut tCut)
open SX (S)
open RZ (ItzT iZipA pi_zipA)
theorem kit_cls (K : PySem.W.Frag) {a b : String} {r : Bool} (h : kitB a b = some r) : PySem.W.kitOne K (.type a) (.type b) = some r := kit_ty h
section
variable {P : Program} {w : World} {K : PySem.W.Frag} {mg : Str → Option Value} {base : Heap}
theorem zip_it {K : PySem.W.Frag} {a b : Addr} {xs ys : List V} {g : TG} {tt : TT} {te : TE} {vs : List Nat} {σ : L2.St} {H1 : Hp} {D : Addr} {Qd : Hp → Prop} (len : xs.length = ys.length) (Pv : Nat → Hp → Prop) (h0 : Pv 0 (upd H1 D (.lst []))) (hl : ∀ i H, Pv i H → SqT K H a xs ∧ SqT K H b ys)
    (hs : ∀ i x y H T, xs[i]? = some x → ys[i]? = some y → Pv i H → H T = none → g (.ref T) (wipe σ vs) (upd H T (.tup [x, y])) fun σ2 H2 => wipe σ2 vs = wipe σ vs ∧ tt σ2 H2 fun b H3 =>
      if b = true then te σ2 H3 fun y H4 => ∃ acc, H4 D = some (.lst acc) ∧ acc.length < sizeLine ∧ Pv (i + 1) (upd H4 D (.lst (acc ++ [y]))) else Pv (i + 1) H3) (hd : ∀ H, Pv xs.length H → Qd H) :
    ∃ W : Nat → Nat → Hp → Prop, (∃ m, W 0 m (upd H1 D (.lst []))) ∧ ∀ i m H, W i m H →
      ((ItzT K a b).stop i H ∧ Qd H) ∨ ((ItzT K a b).go i H ∧ ∃ Nx : Hp → Prop, (∀ H', Nx H' → ∃ m', m' < m ∧ W (i + 1) m' H') ∧ ∀ v H', (ItzT K a b).yld i H v H' → g v (wipe σ vs) H' fun σ2 H2 => wipe σ2 vs = wipe σ vs ∧ tt σ2 H2 fun b H3 =>
        if b = true then te σ2 H3 fun y H4 => ∃ acc, H4 D = some (.lst acc) ∧ acc.length < sizeLine ∧ Nx (upd H4 D (.lst (acc ++ [y]))) else Nx H3) := by
  refine ⟨fun i m H => m = xs.length - i ∧ i ≤ xs.length ∧ Pv i H, ⟨xs.length, by simp, Nat.zero_le _, h0⟩, fun i m H ⟨em, hi, p⟩ => ?_⟩
  obtain ⟨q1, q2⟩ := hl i H p
  by_cases lt : i < xs.length
  · have lt2 : i < ys.length := by omega
    refine .inr ⟨⟨xs, ys, xs[i], ys[i], q1, q2, by simp [lt], by simp [lt2]⟩, Pv (i + 1), fun H' p' => ⟨xs.length - (i + 1), by omega, rfl, lt, p'⟩, fun v H' ⟨T, x, y, ev, nT, eH, hx, hy⟩ => ?_⟩
    rw [ev, eH]
    exact hs i x y H T (hx xs q1) (hy ys q2) p nT
  · have e : i = xs.length := by omega
    rw [e] at p
    exact .inl ⟨⟨xs, ys, q1, q2, .inl (by omega)⟩, hd H p⟩
theorem dt_any {H : Hp} {u : V} {ds : List PyData} (h : Dt H u (.tuple ds)) : ∃ (a : Addr) (xs : List V), u = .ref a ∧ TupAt H a xs ∧ DtAll H xs ds := by
  cases h with
  | tup ha hs => exact ⟨_, _, rfl, .inl ha, hs⟩
  | @tupZ a pl _ o e n d ha =>
    subst e
    exact ⟨_, _, rfl, .inr ⟨o, d, ha⟩, dt_strs H pl⟩
theorem TupAt.ty {K : PySem.W.Frag} {H : Hp} {a : Addr} {xs : List V} (h : TupAt H a xs) : TyX K H (.ref a) (.type "tuple") := h.elim (fun h => .base (.tup h)) fun ⟨_, _, h⟩ => .fTuple h
end
end Far

namespace Far
open PySem PySem.Spec PyProof.Rows L2
open C8 (pss_cut tCut)
open SX (S)
/-! ### the greatest and the least of whole numbers -/
def mxI : List Int → Int
  | [] => 0
  | x :: r => max x (mxI r)
def mxG : List Int → Int
  | [] => 0
  | [x] => x
  | x :: y :: r => max x (mxG (y :: r))
def mnG : List Int → Int
  | [] => 0
  | [x] => x
  | x :: y :: r => min x (mnG (y :: r))
theorem mxG_in : ∀ {l : List Int}, l ≠ [] → mxG l ∈ l ∧ ∀ y ∈ l, y ≤ mxG l
  | [], h => absurd rfl h
  | [x], _ => ⟨List.mem_singleton.mpr rfl, fun y hy => by rw [List.mem_singleton.mp hy]; exact Int.le_refl _⟩
  | x :: y :: r, _ => by
    obtain ⟨h1, h2⟩ := mxG_in (l := y :: r) (by intro z; cases z)
    show max x (mxG (y :: r)) ∈ _ ∧ _
    refine ⟨?_, fun z hz => ?_⟩
    · by_cases c : x ≤ mxG (y :: r)
      · rw [Int.max_eq_right c]
        exact List.mem_cons_of_mem _ h1
      · rw [Int.max_eq_left (by omega)]
        exact List.mem_cons_self ..
    · show z ≤ max x (mxG (y :: r))
      rcases List.mem_cons.mp hz with q | q
      · rw [q]
        exact Int.le_max_left _ _
      · exact Int.le_trans (h2 z q) (Int.le_max_right _ _)
theorem mnG_in : ∀ {l : List Int}, l ≠ [] → mnG l ∈ l ∧ ∀ y ∈ l, mnG l ≤ y
  | [], h => absurd rfl h
  | [x], _ => ⟨List.mem_singleton.mpr rfl, fun y hy => by rw [List.mem_singleton.mp hy]; exact Int.le_refl _⟩
  | x :: y :: r, _ => by
    obtain ⟨h1, h2⟩ := mnG_in (l := y :: r) (by intro z; cases z)
    show min x (mnG (y :: r)) ∈ _ ∧ _
    refine ⟨?_, fun z hz => ?_⟩
    · by_cases c : x ≤ mnG (y :: r)
      · rw [Int.min_eq_left c]
        exact List.mem_cons_self ..
      · rw [Int.min_eq_right (by omega)]
        exact List.mem_cons_of_mem _ h1
    · show min x (mnG (y :: r)) ≤ z
      rcases List.mem_cons.mp hz with q | q
      · rw [q]
        exact Int.min_le_left _ _
      · exact Int.le_trans (Int.min_le_right _ _) (h2 z q)
theorem mxG_is {l : List Int} {m : Int} (h1 : m ∈ l) (h2 : ∀ y ∈ l, y ≤ m) : m = mxG l := by
  obtain ⟨k1, k2⟩ := mxG_in (l := l) (by intro z; rw [z] at h1; cases h1)
  exact Int.le_antisymm (k2 m h1) (h2 _ k1)
theorem mnG_is {l : List Int} {m : Int} (h1 : m ∈ l) (h2 : ∀ y ∈ l, m ≤ y) : m = mnG l := by
  obtain ⟨k1, k2⟩ := mnG_in (l := l) (by intro z; rw [z] at h1; cases h1)
  exact Int.le_antisymm (h2 _ k1) (k2 m h1)
/-- how far a place is from its farthest -/
noncomputable def rch (pl : List Nm) (ts : List Tie) (u : Nm) : Int := mxG (pl.map fun x => dist ts u x)
theorem map_int (pl : List Nm) (f : Nm → Int) : (pl.map fun x => V.int (f x)) = (pl.map f).map V.int := by rw [List.map_map]; rfl
theorem at_name {pl : List Nm} {i : Nat} {v : V} (hi : ((pl.map S).map V.str)[i]? = some v) : ∃ x, pl[i]? = some x ∧ x ∈ pl ∧ v = .str (S x) ∧ pl.take (i + 1) = pl.take i ++ [x] := by
  rw [List.getElem?_map, List.getElem?_map] at hi
  cases el : pl[i]? with
  | none => rw [el] at hi; cases hi
  | some x => rw [el] at hi; exact ⟨x, rfl, List.mem_of_getElem? el, (Option.some.inj hi).symm, by rw [List.take_add_one, el]; rfl⟩
/-- the places whose number is n -/
def thoseD (pl : List Nm) (f : Nm → Int) (n : Int) : PyData := .tuple ((pl.filter fun x => f x == n).map strD)
theorem dts_S (H : Hp) : ∀ pl : List Nm, DtAll H ((pl.map S).map V.str) (pl.map strD)
  | [] => .nil
  | x :: r => .cons (.str _) (dts_S H r)
theorem dts_I (H : Hp) : ∀ ns : List Int, DtAll H (ns.map V.int) (ns.map PyData.int)
  | [] => .nil
  | x :: r => .cons (.int _) (dts_I H r)
theorem take_snoc_filter {pl : List Nm} {f : Nm → Int} {n : Int} {i : Nat} {x : Nm} (h : pl.take (i + 1) = pl.take i ++ [x]) : (pl.take (i + 1)).filter (fun x => f x == n) = (pl.take i).filter (fun x => f x == n) ++ (if f x = n then [x] else []) := by
  rw [h, List.filter_append]
  by_cases c : f x = n
  · rw [if_pos c, List.filter_cons, if_pos (by simp [c])]
    rfl
  · rw [if_neg c, List.filter_cons, if_neg (by simp [c])]
    rfl
end Far

namespace Far
open PySem
open SX (S)
/-! ### ways cut, put together -/
theorem snoc_cons {α : Type} {p p1 p2 : List α} {w m : α} (h : p ++ [w] = p1 ++ m :: p2) : (p2 = [] ∧ p1 = p ∧ m = w) ∨ ∃ p3, p2 = p3 ++ [w] ∧ p = p1 ++ m :: p3 := by
  rcases List.eq_nil_or_concat p2 with e | ⟨p3, z, e⟩
  · subst e
    have := List.append_inj' h rfl
    exact .inl ⟨rfl, this.1.symm, by simpa using this.2.symm⟩
  · rw [e] at h ⊢
    have h' : p ++ [w] = (p1 ++ m :: p3) ++ [z] := by rw [h]; simp
    have := List.append_inj' h' rfl
    refine .inr ⟨p3, ?_, this.1⟩
    have : w = z := by simpa using this.2
    rw [this]
    simp
theorem Way.split {ts : List Tie} {u v : Nm} {p : List Nm} {L : Int} (h : Way ts u v p L) : ∀ {p1 p2 : List Nm} {m : Nm}, p = p1 ++ m :: p2 → ∃ L1 L2, Way ts u m (p1 ++ [m]) L1 ∧ Way ts m v (m :: p2) L2 ∧ L = L1 + L2 := by
  induction h with
  | nil =>
    intro p1 p2 m e
    have h1 : p1 = [] ∧ m = u ∧ p2 = [] := by
      cases p1 with
      | nil =>
        have := List.cons.inj e
        exact ⟨rfl, this.1.symm, this.2.symm⟩
      | cons a r =>
        have := congrArg List.length e
        simp at this
    obtain ⟨rfl, rfl, rfl⟩ := h1
    exact ⟨0, 0, .nil, .nil, by omega⟩
  | @snoc v w p L k h1 ha hn ih =>
    intro p1 p2 m e
    rcases snoc_cons e with ⟨rfl, rfl, rfl⟩ | ⟨p3, rfl, rfl⟩
    · exact ⟨L + k, 0, .snoc h1 ha hn, .nil, by omega⟩
    · obtain ⟨L1, L2, w1, w2, el⟩ := ih rfl
      exact ⟨L1, L2 + k, w1, .snoc w2 ha (fun z => hn (List.mem_append_right _ z)), by omega⟩
theorem Way.join {ts : List Tie} {u m v : Nm} {p1 q : List Nm} {L1 L2 : Int} (h1 : Way ts u m (p1 ++ [m]) L1) (h2 : Way ts m v q L2) (d : ∀ y ∈ q, y ∉ p1) : Way ts u v (p1 ++ q) (L1 + L2) := by
  induction h2 with
  | nil => simpa using h1
  | @snoc v w q L k h ha hn ih =>
    have := Way.snoc (ih fun y hy => d y (List.mem_append_left _ hy)) ha (w := w) (fun z => by
      rcases List.mem_append.mp z with z | z
      · exact d w (by simp) z
      · exact hn z)
    rw [List.append_assoc] at this
    rw [← Int.add_assoc]
    exact this
theorem first_in (q : List Nm) : ∀ {p : List Nm}, (∃ y ∈ p, y ∈ q) → ∃ A m B, p = A ++ m :: B ∧ m ∈ q ∧ ∀ y ∈ A, y ∉ q
  | [], h => by simp at h
  | a :: r, h => by
    by_cases e : a ∈ q
    · exact ⟨[], a, r, rfl, e, by simp⟩
    · obtain ⟨y, hy, hq⟩ := h
      rcases List.mem_cons.mp hy with z | z
      · exact absurd (z ▸ hq) e
      · obtain ⟨A, m, B, e1, e2, e3⟩ := first_in q ⟨y, z, hq⟩
        refine ⟨a :: A, m, B, by rw [e1]; rfl, e2, fun y hy => ?_⟩
        rcases List.mem_cons.mp hy with z | z
        · exact z ▸ e
        · exact e3 y z
theorem last_of {p : List Nm} {x : Nm} {A B : List Nm} {m : Nm} (h : p ++ [x] = A ++ m :: B) : (B = [] ∧ m = x) ∨ x ∈ B := by
  rcases snoc_cons h with ⟨e, _, em⟩ | ⟨p3, e, _⟩
  · exact .inl ⟨e, em⟩
  · exact .inr (by rw [e]; simp)
/-- the place where three ways meet -/
theorem IsTree.median {pl : List Nm} {ts : List Tie} (h : IsTree pl ts) {u v x : Nm} (hu : u ∈ pl) (hv : v ∈ pl) (hx : x ∈ pl) : ∃ (m : Nm) (A B C : List Nm) (d : Int), path ts u x = A ++ m :: B ∧ path ts x v = B.reverse ++ m :: C ∧ path ts u v = A ++ m :: C ∧
    (∀ y ∈ A, y ∉ path ts x v) ∧ dist ts u x + dist ts x v = dist ts u v + 2 * d ∧ 0 ≤ d ∧ (d = 0 ↔ B = []) := by
  have wp := h.the_way hu hx
  have wq := h.the_way hx hv
  obtain ⟨A, m, B, ep, mq, dA⟩ := first_in (path ts x v) ⟨x, wp.mem, by
    obtain ⟨r, e⟩ := wq.first
    rw [e]
    simp⟩
  obtain ⟨B', C, eq⟩ := List.append_of_mem mq
  obtain ⟨L1, L2, w1, w2, el⟩ := wp.split ep
  obtain ⟨L3, L4, w3, w4, el2⟩ := wq.split eq
  have wr := w2.rev
  rw [List.reverse_cons] at wr
  obtain ⟨eb, e23⟩ := h.one_way w3 wr
  have eb' : B' = B.reverse := (List.append_inj' eb rfl).1
  subst eb'
  have wj := w1.join w4 (fun y hy z => dA y z (by rw [eq]; exact List.mem_append_right _ hy))
  obtain ⟨f1, f2⟩ := h.is_way wj
  obtain ⟨n0, n1⟩ := w2.nonneg (fun e he => (h.ties e he).2.2.1)
  refine ⟨m, A, B, C, L2, ep, eq, f1, dA, by omega, n0, ?_, fun e => ?_⟩
  · intro e
    rw [List.length_cons] at n1
    exact List.eq_nil_of_length_eq_zero (by omega)
  · subst e
    obtain ⟨r, er⟩ := w2.last
    have em : x = m := by
      cases r with
      | nil => exact (List.cons.inj er).1.symm
      | cons a r =>
        have := congrArg List.length er
        simp at this
    subst em
    exact (h.one_way w2 .nil).2
/-- over a third place no way is shorter; just as long where it is on the way -/
theorem IsTree.over {pl : List Nm} {ts : List Tie} (h : IsTree pl ts) {u v x : Nm} (hu : u ∈ pl) (hv : v ∈ pl) (hx : x ∈ pl) : dist ts u v ≤ dist ts u x + dist ts x v ∧ (dist ts u x + dist ts x v = dist ts u v ↔ x ∈ path ts u v) ∧
    ∃ m, (path ts u v).filter (fun y => decide (y ∈ path ts u x) && decide (y ∈ path ts x v)) = [m] := by
  obtain ⟨m, A, B, C, d, e1, e2, e3, dA, ed, d0, db⟩ := h.median hu hv hx
  have np := (h.the_way hu hx).nodup
  have nq := (h.the_way hx hv).nodup
  obtain ⟨r, er⟩ := (h.the_way hu hx).last
  obtain ⟨t, et⟩ := (h.the_way hx hv).first
  rw [e1] at np er
  rw [e2] at nq et dA
  have qd := List.nodup_append.mp nq
  have pd := List.nodup_append.mp np
  refine ⟨by omega, ⟨fun e => ?_, fun e => ?_⟩, m, ?_⟩
  · have b0 := db.mp (by omega)
    subst b0
    rcases last_of er.symm with ⟨_, em⟩ | z
    · rw [e3, ← em]
      simp
    · cases z
  · rcases last_of er.symm with ⟨b0, _⟩ | z
    · have := db.mpr b0
      omega
    · exfalso
      rw [e3] at e
      rcases List.mem_append.mp e with q | q
      · exact pd.2.2 x q x (List.mem_cons_of_mem _ z) rfl
      · rcases List.mem_cons.mp q with q | q
        · exact (List.nodup_cons.mp pd.2.1).1 (q ▸ z)
        · have : x ∈ B.reverse := List.mem_reverse.mpr z
          exact qd.2.2 x this x (List.mem_cons_of_mem _ q) rfl
  · rw [e3, e1, e2, List.filter_append]
    have fA : A.filter (fun y => decide (y ∈ A ++ m :: B) && decide (y ∈ B.reverse ++ m :: C)) = [] := by
      refine List.filter_eq_nil_iff.mpr fun y hy => ?_
      simp only [Bool.and_eq_true, decide_eq_true_eq, not_and]
      exact fun _ => dA y hy
    have fC : C.filter (fun y => decide (y ∈ A ++ m :: B) && decide (y ∈ B.reverse ++ m :: C)) = [] := by
      refine List.filter_eq_nil_iff.mpr fun y hy => ?_
      simp only [Bool.and_eq_true, decide_eq_true_eq, not_and]
      intro z _
      rcases List.mem_append.mp z with z | z
      · exact dA y z (List.mem_append_right _ (List.mem_cons_of_mem _ hy))
      · rcases List.mem_cons.mp z with z | z
        · exact (List.nodup_cons.mp qd.2.1).1 (z ▸ hy)
        · exact qd.2.2 y (List.mem_reverse.mpr z) y (List.mem_cons_of_mem _ hy) rfl
    rw [fA, List.filter_cons, if_pos (by simp), fC]
    rfl
/-- two beside one another -/
theorem Way.two {ts : List Tie} {u v : Nm} {k : Int} (h : Adj ts u v k) (ne : v ≠ u) : Way ts u v [u, v] k := by
  have := Way.snoc (ts := ts) (u := u) .nil h (by simpa using ne)
  simpa using this
theorem Grown.adj_ne {os : List Nm} {es : List Tie} (g : Grown os es) : ∀ {u v : Nm} {k : Int}, Adj es u v k → v ≠ u := by
  induction g with
  | one a =>
    intro u v k h
    rcases h with h | h <;> cases h
  | @leaf os es a b k0 e0 g ha hbn he k1 k2 ih =>
    intro u v k h
    have hb : ∀ e ∈ es, e.1 ≠ b ∧ e.2.1 ≠ b := fun e hm => by
      obtain ⟨i1, i2, _⟩ := g.ties e hm
      exact ⟨fun z => hbn (z ▸ i1), fun z => hbn (z ▸ i2)⟩
    have ab : a ≠ b := fun z => hbn (z ▸ ha)
    rcases adj_new hb ab he h with ⟨h, _, _⟩ | ⟨e1, e2, _⟩ | ⟨e1, e2, _⟩
    · exact ih h
    · rw [e1, e2]
      exact Ne.symm ab
    · rw [e1, e2]
      exact ab
theorem IsTree.adj_ne {pl : List Nm} {ts : List Tie} (h : IsTree pl ts) {u v : Nm} {k : Int} (a : Adj ts u v k) : v ≠ u := by
  obtain ⟨os, es, g, _, p2⟩ := h
  exact g.adj_ne (a.perm p2)
theorem IsTree.adj_one {pl : List Nm} {ts : List Tie} (h : IsTree pl ts) {u v : Nm} {k l : Int} (a : Adj ts u v k) (b : Adj ts u v l) : k = l := (h.one_way (Way.two a (h.adj_ne a)) (Way.two b (h.adj_ne b))).2
/-- the ties of a way -/
theorem Way.hops {ts : List Tie} {u v : Nm} {p : List Nm} {L : Int} (h : Way ts u v p L) : ∃ ks : List Int, ks.length + 1 = p.length ∧ ks.sum = L ∧ ∀ (i : Nat) (x y : Nm), p[i]? = some x → p[i + 1]? = some y → ∃ k, ks[i]? = some k ∧ Adj ts x y k := by
  induction h with
  | nil => exact ⟨[], rfl, rfl, fun i x y _ e => by simp at e⟩
  | @snoc v w p L k h ha hn ih =>
    obtain ⟨ks, e1, e2, e3⟩ := ih
    refine ⟨ks ++ [k], by simp [e1], by simp [e2], fun i x y ex ey => ?_⟩
    by_cases lt : i + 1 < p.length
    · rw [List.getElem?_append_left (by omega)] at ex
      rw [List.getElem?_append_left lt] at ey
      obtain ⟨k', f1, f2⟩ := e3 i x y ex ey
      exact ⟨k', by rw [List.getElem?_append_left (by omega)]; exact f1, f2⟩
    · have ei : i + 1 = p.length := by
        have := (List.getElem?_eq_some_iff.mp ey).1
        simp at this
        omega
      rw [List.getElem?_append_left (by omega)] at ex
      rw [ei, List.getElem?_append_right (by omega)] at ey
      simp at ey
      obtain ⟨q, eq⟩ := h.last
      rw [eq] at ex ei
      rw [List.length_append, List.length_singleton] at ei
      have ei' : i = q.length := by omega
      rw [ei', List.getElem?_append_right (by omega)] at ex
      simp at ex
      rw [← ex, ← ey]
      refine ⟨k, ?_, ha⟩
      have : ks.length = i := by
        rw [eq, List.length_append, List.length_singleton] at e1
        omega
      rw [← this]
      simp
end Far

namespace Far
open PySem PySem.Spec PyProof.Rows L2
open C8 (pss_cut tCut)
open SX (S)
abbrev Tri := Int × Nm × Nm
def triD (x : Tri) : PyData := .tuple [.int x.1, .str (S x.2.1), .str (S x.2.2)]
/-- the pairs of place i with those behind it -/
noncomputable def rowP (pl : List Nm) (ts : List Tie) (i : Nat) : List Tri := (pl.drop (i + 1)).map fun y => (dist ts (pl.getD i []) y, pl.getD i [], y)
/-- those of the first n places -/
noncomputable def prs (pl : List Nm) (ts : List Tie) (n : Nat) : List Tri := (List.range n).flatMap (rowP pl ts)
/-- all pairs of two places, in order -/
noncomputable def pairsOf (pl : List Nm) (ts : List Tie) : List Tri := prs pl ts pl.length
theorem prs_succ (pl : List Nm) (ts : List Tie) (n : Nat) : prs pl ts (n + 1) = prs pl ts n ++ rowP pl ts n := by
  unfold prs
  rw [List.range_succ, List.flatMap_append, List.flatMap_singleton]
theorem rowP_len (pl : List Nm) (ts : List Tie) (i : Nat) : (rowP pl ts i).length = pl.length - (i + 1) := by
  unfold rowP
  rw [List.length_map, List.length_drop]
theorem prs_len (pl : List Nm) (ts : List Tie) : ∀ n, (prs pl ts n).length ≤ n * pl.length
  | 0 => Nat.zero_le _
  | n + 1 => by
    have ih := prs_len pl ts n
    rw [prs_succ, List.length_append, rowP_len, Nat.succ_mul]
    omega
theorem rowP_at {pl : List Nm} {ts : List Tie} {i j : Nat} {x y : Nm} (hx : pl[i]? = some x) (hy : pl[i + 1 + j]? = some y) : (rowP pl ts i)[j]? = some (dist ts x y, x, y) := by
  have ex : pl.getD i [] = x := by
    show (pl[i]?).getD [] = x
    rw [hx]
    rfl
  unfold rowP
  rw [ex, List.getElem?_map, List.getElem?_drop, hy]
  rfl
end Far

namespace Far
open PySem PySem.Spec PyProof.Rows L2
open C8 (pss_cut tCut)
open SX (S)
/-! ### the greatest of triples -/
def best : List Tri → Int
  | [] => 0
  | x :: r => r.foldl (fun m y => max m y.1) x.1
theorem fold_max : ∀ (r : List Tri) (m : Int), (r.foldl (fun m y => max m y.1) m = m ∨ r.foldl (fun m y => max m y.1) m ∈ r.map (·.1)) ∧ m ≤ r.foldl (fun m y => max m y.1) m ∧ ∀ y ∈ r, y.1 ≤ r.foldl (fun m y => max m y.1) m
  | [], m => ⟨.inl rfl, Int.le_refl _, fun y hy => (by cases hy)⟩
  | x :: r, m => by
    obtain ⟨h1, h2, h3⟩ := fold_max r (max m x.1)
    refine ⟨?_, ?_, fun y hy => ?_⟩
    · show r.foldl _ (max m x.1) = m ∨ r.foldl _ (max m x.1) ∈ x.1 :: r.map (·.1)
      rcases h1 with h1 | h1
      · rw [h1]
        by_cases z : m ≤ x.1
        · exact .inr (by rw [Int.max_eq_right z]; exact List.mem_cons_self ..)
        · exact .inl (Int.max_eq_left (by omega))
      · exact .inr (List.mem_cons_of_mem _ h1)
    · show m ≤ r.foldl _ (max m x.1)
      exact Int.le_trans (Int.le_max_left _ _) h2
    · show y.1 ≤ r.foldl _ (max m x.1)
      rcases List.mem_cons.mp hy with z | z
      · rw [z]
        exact Int.le_trans (Int.le_max_right _ _) h2
      · exact h3 y z
theorem best_is {ps : List Tri} {m : Int} (h1 : m ∈ ps.map (·.1)) (h2 : ∀ y ∈ ps.map (·.1), y ≤ m) : best ps = m := by
  cases ps with
  | nil => cases h1
  | cons x r =>
    obtain ⟨k1, k2, k3⟩ := fold_max r x.1
    show r.foldl (fun m y => max m y.1) x.1 = m
    have a : r.foldl (fun m y => max m y.1) x.1 ≤ m := by
      rcases k1 with k1 | k1
      · rw [k1]
        exact h2 _ (List.mem_cons_self ..)
      · exact h2 _ (List.mem_cons_of_mem _ k1)
    have b : m ≤ r.foldl (fun m y => max m y.1) x.1 := by
      rcases List.mem_cons.mp h1 with z | z
      · rw [z]
        exact k2
      · obtain ⟨y, hy, e⟩ := List.mem_map.mp z
        rw [← e]
        exact k3 y hy
    omega
/-- the pairs of the greatest length, in order -/
noncomputable def farOf (pl : List Nm) (ts : List Tie) : List Tri := (pairsOf pl ts).filter fun x => x.1 == best (pairsOf pl ts)
/-- what farthest tells -/
noncomputable def farD (pl : List Nm) (ts : List Tie) : PyData := match farOf pl ts with
  | [] => .tuple [.int 0, .str (S (pl.headD [])), .str (S (pl.headD []))]
  | x :: _ => triD x
/-- what all_farthest tells -/
noncomputable def allD (pl : List Nm) (ts : List Tie) : PyData := .tuple ((farOf pl ts).map fun x => .tuple [.str (S x.2.1), .str (S x.2.2)])
theorem farOf_none {pl : List Nm} {ts : List Tie} (h : pairsOf pl ts = []) : farOf pl ts = [] := by
  unfold farOf
  rw [h]
  rfl
theorem mem_prs {pl : List Nm} {ts : List Tie} {x : Tri} : ∀ {n : Nat}, n ≤ pl.length → x ∈ prs pl ts n → x.2.1 ∈ pl ∧ x.2.2 ∈ pl ∧ x.1 = dist ts x.2.1 x.2.2
  | 0, _, h => by cases h
  | n + 1, hn, h => by
    rw [prs_succ] at h
    rcases List.mem_append.mp h with h | h
    · exact mem_prs (by omega) h
    · obtain ⟨y, hy, rfl⟩ := List.mem_map.mp h
      refine ⟨?_, List.mem_of_mem_drop hy, rfl⟩
      show pl.getD n [] ∈ pl
      have e : pl.getD n [] = pl[n]'(by omega) := by simp [List.getD, show n < pl.length by omega]
      rw [e]
      exact List.getElem_mem _
theorem mem_pairs {pl : List Nm} {ts : List Tie} {x : Tri} (h : x ∈ pairsOf pl ts) : x.2.1 ∈ pl ∧ x.2.2 ∈ pl ∧ x.1 = dist ts x.2.1 x.2.2 := mem_prs (Nat.le_refl _) h
theorem dt_tri {H : Hp} {v : V} {x : Tri} (h : Dt H v (triD x)) : ∃ t : Addr, v = .ref t ∧ H t = some (.tup [.int x.1, .str (S x.2.1), .str (S x.2.2)]) := by
  obtain ⟨t, xs, rfl, ht, hs⟩ := dt_tup h fun _ => ⟨.int x.1, by simp, fun l z => nomatch z⟩
  cases hs with
  | cons h1 hr =>
    cases hr with
    | cons h2 hr =>
      cases hr with
      | cons h3 hr =>
        cases hr
        cases h1
        cases h2
        cases h3
        exact ⟨t, rfl, ht⟩
theorem lay_tris : ∀ {xs : List Tri}, (∀ x ∈ xs, NameOk x.2.1 ∧ NameOk x.2.2) → PyData.canLayAll0 (xs.map triD) = true
  | [], _ => rfl
  | x :: r, h => by
    obtain ⟨h1, h2⟩ := h x (List.mem_cons_self ..)
    have ih := lay_tris fun y hy => h y (List.mem_cons_of_mem _ hy)
    show (PyData.canLay0 (triD x) && PyData.canLayAll0 (r.map triD)) = true
    rw [ih, Bool.and_true]
    show (true && (PyData.strOk (S x.2.1) && (PyData.strOk (S x.2.2) && true))) = true
    rw [strOk_S h1, strOk_S h2]
    rfl
theorem dep_tris : ∀ xs : List Tri, PyData.depthAll (xs.map triD) ≤ 1
  | [] => Nat.zero_le _
  | x :: r => by
    show max (PyData.depth (triD x)) (PyData.depthAll (r.map triD)) ≤ 1
    have ih := dep_tris r
    have e : PyData.depth (triD x) = 1 := rfl
    rw [e]
    omega
theorem shaped_tris {xs : List Tri} (h : ∀ x ∈ xs, NameOk x.2.1 ∧ NameOk x.2.2) : SeqAt.shaped (.list (xs.map triD)) = true := by
  show (PyData.canLayAll0 (xs.map triD) && decide (PyData.depthAll (xs.map triD) + 1 ≤ 64)) = true
  have := dep_tris xs
  rw [lay_tris h, decide_eq_true (by omega)]
  rfl
end Far

namespace Far
open PySem PySem.Spec PyProof.Rows L2
open C8 (pss_cut tCut)
open SX (S)
structure TxtQ (mg : Str → Option Value) : Prop where
  len : mg "len" = none
  range : mg "range" = none
  tuple : mg "tuple" = none
  enumerate : mg "enumerate" = none
theorem szM {n : Nat} (h : n ≤ 10000000) : n < sizeLine := Nat.lt_of_le_of_lt h (by decide)
theorem for_enumT {K : PySem.W.Frag} {a : Addr} {xs : List V} {g : TG} {tb : TS} {D : Ends} {σ : L2.St} {H : Hp} (Pv : Nat → L2.St → Hp → Prop) (h0 : Pv 0 σ H) (hl : ∀ i σ H, Pv i σ H → SqT K H a xs)
    (hs : ∀ i x σ H T, xs[i]? = some x → Pv i σ H → H T = none → g (.ref T) σ (upd H T (.tup [.int (i : Nat), x])) fun σ2 H2 => tb { D with nx := Pv (i + 1), ct := Pv (i + 1), bk := D.nx } σ2 H2) (hd : ∀ σ H, Pv xs.length σ H → D.nx σ H) :
    ∃ W : Nat → Nat → L2.St → Hp → Prop, (∃ m, W 0 m σ H) ∧ ∀ i m σ H, W i m σ H →
      ((Itne K a).stop i H ∧ D.nx σ H) ∨ ((Itne K a).go i H ∧ ∃ N : L2.St → Hp → Prop, (∀ σ' H', N σ' H' → ∃ m', m' < m ∧ W (i + 1) m' σ' H') ∧ ∀ x H', (Itne K a).yld i H x H' → g x σ H' fun σ2 H2 => tb { D with nx := N, ct := N, bk := D.nx } σ2 H2) := by
  refine ⟨fun i m σ H => m = xs.length - i ∧ i ≤ xs.length ∧ Pv i σ H, ⟨xs.length, by simp, Nat.zero_le _, h0⟩, fun i m σ H ⟨em, hi, p⟩ => ?_⟩
  have q := hl i σ H p
  by_cases lt : i < xs.length
  · refine .inr ⟨⟨xs, xs[i], q, by simp [lt]⟩, Pv (i + 1), fun σ' H' p' => ⟨xs.length - (i + 1), by omega, rfl, lt, p'⟩, fun v H' ⟨T, x, ev, nT, eH, hx⟩ => ?_⟩
    rw [ev, eH]
    exact hs i x σ H T (hx xs q) p nT
  · have e : i = xs.length := by omega
    rw [e] at p
    exact .inl ⟨⟨xs, q, by omega⟩, hd σ H p⟩
abbrev s_pairs_in_order : Stmt := topS 18
abbrev N_pairs_in_order : List Str := ["tree", "places", "told", "number", "one", "lengths", "behind"]
theorem sc_pairs_in_order : FnScope N_pairs_in_order ["tree"] (defScope s_pairs_in_order) := ⟨rfl, rfl, rfl, by decide +kernel, rfl, by decide +kernel, by decide +kernel⟩
section
variable {P : Program} {w : World} {K : PySem.W.Frag} {mg : Str → Option Value} {base : Heap}
/-- what pairs_in_order tells -/
def spPio : Sp := fun vs H Q _ => ∃ (v : V) (pl : List Nm) (ts : List Tie), vs = [v] ∧ Dt H v (treeD pl ts) ∧ Fine pl ts ∧ ∀ (H' : Hp) (D : Addr) (ws : List V), Same H H' → H D = none → H' D = some (.lst ws) → DtAll H' ws ((pairsOf pl ts).map triD) → Q (.ref D) H'
theorem ok_pio {f : Addr} {fd : FuncData} (F : Fun K "pairs_in_order" "pairs_in_order" s_pairs_in_order f fd) (T : TxtQ mg) (Clengths_from : Cal P w K mg base 3 "lengths_from" spLens) : FnOk P w K mg base CX0 4 f fd ["tree"] spPio := by
  refine F.ok sc_pairs_in_order (fun vs H Q E h => ?_) (fun cdv A outer s H vs Q E hr h => ?_)
  · obtain ⟨v, pl, ts, rfl, _⟩ := h
    rfl
  · obtain ⟨v, pl, ts, rfl, hd, fine, q⟩ := h
    obtain ⟨t, a, b, vs, rfl, ht, ha, hb, hA⟩ := dt_tree hd
    refine ⟨_, (pss_cons (ps_set (i := 1) sc_pairs_in_order.nd rfl (.inl rfl) (pe_ix ix_tup (pv 0) pe_int (fun _ _ => rfl)))
      (pss_cons (ps_set (i := 2) sc_pairs_in_order.nd rfl (.inl rfl) (pe_lst pa_nil))
      (pss_cut (ps_for PassesOwn.never rfl (pi_enumT (by rfl) T.enumerate (pa_cons (pv 1) pa_nil)) (pg_tup rfl (pgs_cons (pg_name (i := 3) sc_pairs_in_order.nd rfl (.inl rfl)) (pgs_cons (pg_name (i := 4) sc_pairs_in_order.nd rfl (.inl rfl)) pgs_nil)))
        (pss_cons (ps_set (i := 5) sc_pairs_in_order.nd rfl (.inl rfl) (pe_c Clengths_from hr (by decide) rfl (pa_cons (pv 0) (pa_cons (pv 4) pa_nil))))
        (pss_one (ps_for PassesOwn.never rfl (pi_range2 (by rfl) T.range (pa_cons (pe_op op_add (pv 3) pe_int) (pa_cons (pe_callB call_len_seq (by rfl) T.len bt_len (pa_cons (pv 1) pa_nil)) pa_nil))) (pg_name (i := 6) sc_pairs_in_order.nd rfl (.inl rfl))
          (pss_one (ps_expr (pe_bm PySem.F.plainAttrs_list PySem.F.slot_list_append PySem.F.type_list_append mt_append (pv 2) (pa_cons (pe_tup (pa_cons (pe_ix ix_tup (pv 5) (pv 6) (fun _ _ => rfl)) (pa_cons (pv 4) (pa_cons (pe_ix ix_tup (pv 1) (pv 6) (fun _ _ => rfl)) pa_nil)))) pa_nil))))))))
      (pss_one (ps_ret (pv 2)))))), ?_⟩
    have p1000 := fine.len
    have sqn : ((pl.map S).map V.str).length = pl.length := by rw [List.length_map, List.length_map]
    refine ⟨_, rfl, t, _, 0, .ref a, rfl, rfl, SqT.of ht, atI_nat (j := 0) rfl, ?_⟩
    refine ⟨Nat.zero_le _, fun D nD => ?_⟩
    refine ⟨fun σ' H' => ∃ (x3 x4 x5 x6 : Option V) (ws : List V), σ' = [some (.ref t), some (.ref a), some (.ref D), x3, x4, x5, x6] ∧ Same H H' ∧ H' D = some (.lst ws) ∧ DtAll H' ws ((pairsOf pl ts).map triD), ?_, fun σ' H' hM => ?_⟩
    · have S2 := same_new (o := .lst []) (Same.refl H) nD
      refine ⟨_, rfl, a, _, rfl, (ha.same S2).sq, ?_⟩
      refine for_enumT (K := K) (a := a) (xs := (pl.map S).map V.str) (fun i σ' H' => ∃ (x3 x4 x5 x6 : Option V) (ws : List V), σ' = [some (.ref t), some (.ref a), some (.ref D), x3, x4, x5, x6] ∧ Same H H' ∧ H' D = some (.lst ws) ∧ DtAll H' ws ((prs pl ts i).map triD)) ⟨none, none, none, none, [], rfl, S2, upd_same, .nil⟩ (fun i σ' H' hP => ?_) (fun i v σ' H' u hi hP nu => ?_) (fun σ' H' hP => ?_)
      · obtain ⟨_, _, _, _, ws, rfl, SM, _⟩ := hP
        exact (ha.same SM).sq
      · obtain ⟨x3, x4, x5, x6, ws, rfl, SM, hD, hW⟩ := hP
        have gx : ∃ x, pl[i]? = some x ∧ v = .str (S x) := by
          rw [List.getElem?_map, List.getElem?_map] at hi
          cases el : pl[i]? with
          | none => rw [el] at hi; cases hi
          | some x => rw [el] at hi; exact ⟨x, rfl, (Option.some.inj hi).symm⟩
        obtain ⟨x, gx, rfl⟩ := gx
        have ip : i < pl.length := (List.getElem?_eq_some_iff.mp gx).1
        have hx : x ∈ pl := List.mem_of_getElem? gx
        have uD : u ≠ D := (ne_of_none hD nu).symm
        have S3 := same_new (o := .tup [.int (i : Nat), .str (S x)]) SM nu
        have tk3 : TK H' (upd H' u (.tup [.int (i : Nat), .str (S x)])) := TK.new nu
        have hD3 : (upd H' u (.tup [.int (i : Nat), .str (S x)])) D = some (.lst ws) := by rw [upd_ne uD.symm]; exact hD
        have hW3 := DtAll.keep tk3 hW
        have hu3 : (upd H' u (.tup [.int (i : Nat), .str (S x)])) u = some (.tup [.int (i : Nat), .str (S x)]) := upd_same
        clear hD hW tk3 nu SM
        generalize upd H' u (.tup [.int (i : Nat), .str (S x)]) = H3 at S3 hD3 hW3 hu3
        refine ⟨u, _, rfl, SqT.of hu3, rfl, _, _, rfl, _, _, rfl, rfl, ?_⟩
        refine ⟨_, rfl, _, rfl, .ref t, pl, ts, x, rfl, Dt.keep (TK.of S3) hd, fine, hx, fun H4 L S4 nL hL => ?_⟩
        have SM := S3.trans S4
        have hD := S4 _ _ hD3
        have hW := DtAll.keep (TK.of S4) hW3
        refine ⟨_, rfl, _, _, rfl, rfl, _, rfl, a, _, rfl, .inr (ha.same SM).sq, _, _, rfl, ⟨by omega, by omega, by rw [sqn]; omega, by rw [sqn]; omega⟩, ?_⟩
        refine for_range (lo := ((i : Nat) : Int) + 1) (n := ((((pl.map S).map V.str).length : Int) - (((i : Nat) : Int) + 1)).toNat) (fun j σ' H' => ∃ (x6 : Option V) (ws : List V), σ' = [some (.ref t), some (.ref a), some (.ref D), some (.int ((i : Nat) : Int)), some (.str (S x)), some (.ref L), x6] ∧ Same H H' ∧ H' L = some (.tup (pl.map fun z => .int (dist ts x z))) ∧ H' D = some (.lst ws) ∧ DtAll H' ws ((prs pl ts i ++ (rowP pl ts i).take j).map triD)) ⟨x6, ws, rfl, SM, hL, hD, by rw [List.take_zero, List.append_nil]; exact hW⟩ (fun j σ' H' hj hP => ?_) (fun σ' H' hP => ?_)
        · obtain ⟨x6, ws, rfl, S6, hL, hD, hW⟩ := hP
          rw [sqn] at hj
          have jp : i + 1 + j < pl.length := by omega
          have gy : pl[i + 1 + j]? = some pl[i + 1 + j] := List.getElem?_eq_getElem jp
          generalize pl[i + 1 + j] = y at gy
          have hy : y ∈ pl := List.mem_of_getElem? gy
          have ej : ((i : Nat) : Int) + 1 + (j : Int) = ((i + 1 + j : Nat) : Int) := by omega
          have wl : ws.length = (prs pl ts i ++ (rowP pl ts i).take j).length := by
            have := DtAll.len hW
            rwa [List.length_map] at this
          have b1 := prs_len pl ts i
          have b2 : i * pl.length ≤ 1000 * 1000 := Nat.mul_le_mul (by omega) p1000
          rw [List.length_append, List.length_take, rowP_len] at wl
          have gpy : ((pl.map S).map V.str)[i + 1 + j]? = some (.str (S y)) := by rw [List.getElem?_map, List.getElem?_map, gy]; rfl
          have gd : (pl.map fun z => V.int (dist ts x z))[i + 1 + j]? = some (.int (dist ts x y)) := by rw [List.getElem?_map, gy]; rfl
          refine ⟨_, rfl, .inl ⟨rfl, _, SqL.of hD⟩, _, rfl, _, rfl, L, _, ((i : Nat) : Int) + 1 + (j : Int), _, rfl, rfl, SqT.of hL, by rw [ej]; exact atI_nat gd, ?_⟩
          refine ⟨_, rfl, _, rfl, _, rfl, a, _, ((i : Nat) : Int) + 1 + (j : Int), _, rfl, rfl, (ha.same S6).sq, by rw [ej]; exact atI_nat gpy, (by show 3 ≤ sizeLine; decide), fun e ne => ?_⟩
          have hD2 : (upd H' e (.tup [.int (dist ts x y), .str (S x), .str (S y)])) D = some (.lst ws) := by
            rw [upd_ne (ne_of_none hD ne)]
            exact hD
          refine ⟨D, ws, _, rfl, rfl, hD2, szM (by omega), ?_⟩
          have tk : TK (upd H' e (.tup [.int (dist ts x y), .str (S x), .str (S y)])) (upd (upd H' e (.tup [.int (dist ts x y), .str (S x), .str (S y)])) D (.lst (ws ++ [.ref e]))) := TK.mut hD2
          have Le : L ≠ e := ne_of_none hL ne
          have LD : L ≠ D := ne_of hL hD (by intro z; cases z)
          refine ⟨_, ws ++ [.ref e], rfl, same_put (same_new S6 ne) nD, by rw [upd_ne LD, upd_ne Le]; exact hL, upd_same, ?_⟩
          rw [List.take_add_one, rowP_at gx gy, ← List.append_assoc, List.map_append]
          exact DtAll.app (DtAll.keep ((TK.new ne).trans tk) hW) (.cons (.tup (tk.tup _ _ upd_same) (.cons (.int _) (.cons (.str _) (.cons (.str _) .nil)))) .nil)
        · obtain ⟨x6, ws, rfl, S6, hL, hD, hW⟩ := hP
          refine ⟨_, _, _, _, ws, rfl, S6, hD, ?_⟩
          rw [sqn, List.take_of_length_le (by rw [rowP_len]; omega)] at hW
          rw [prs_succ]
          exact hW
      · obtain ⟨x3, x4, x5, x6, ws, rfl, SM, hD, hW⟩ := hP
        rw [sqn] at hW
        exact ⟨x3, x4, x5, x6, ws, rfl, SM, hD, hW⟩
    · obtain ⟨x3, x4, x5, x6, ws, rfl, SM, hD, hW⟩ := hM
      exact ⟨_, rfl, q H' D ws SM nD hD hW⟩
end
end Far

namespace Far
open PySem PySem.Spec PyProof.Rows L2
open C8 (pss_cut tCut)
open SX (S)
/-! ### the first of the greatest, by going along -/
def topT : Tri → List Tri → Tri := List.foldl fun m y => if y.1 > m.1 then y else m
theorem topT_snoc (m : Tri) (ps : List Tri) (y : Tri) : topT m (ps ++ [y]) = if y.1 > (topT m ps).1 then y else topT m ps := by
  unfold topT
  rw [List.foldl_append]
  rfl
theorem topT_is : ∀ (ps : List Tri) (m : Tri), (topT m ps = m ∧ ∀ y ∈ ps, y.1 ≤ m.1) ∨ (m.1 < (topT m ps).1 ∧ (∃ r, ps.filter (fun x => x.1 == (topT m ps).1) = topT m ps :: r) ∧ ∀ y ∈ ps, y.1 ≤ (topT m ps).1)
  | [], m => .inl ⟨rfl, fun y hy => (by cases hy)⟩
  | y :: t, m => by
    by_cases c : y.1 > m.1
    · have e : topT m (y :: t) = topT y t := by
        show topT (if y.1 > m.1 then y else m) t = _
        rw [if_pos c]
      rw [e]
      rcases topT_is t y with ⟨h1, h2⟩ | ⟨h1, ⟨r, h2⟩, h3⟩
      · refine .inr ⟨by rw [h1]; exact c, ⟨t.filter fun x => x.1 == y.1, ?_⟩, fun z hz => ?_⟩
        · rw [h1, List.filter_cons, if_pos (by simp)]
        · rw [h1]
          rcases List.mem_cons.mp hz with q | q
          · rw [q]
            exact Int.le_refl _
          · exact h2 z q
      · refine .inr ⟨by omega, ⟨r, ?_⟩, fun z hz => ?_⟩
        · rw [List.filter_cons, if_neg (by simp; omega)]
          exact h2
        · rcases List.mem_cons.mp hz with q | q
          · rw [q]
            omega
          · exact h3 z q
    · have e : topT m (y :: t) = topT m t := by
        show topT (if y.1 > m.1 then y else m) t = _
        rw [if_neg c]
      rw [e]
      rcases topT_is t m with ⟨h1, h2⟩ | ⟨h1, ⟨r, h2⟩, h3⟩
      · refine .inl ⟨h1, fun z hz => ?_⟩
        rcases List.mem_cons.mp hz with q | q
        · rw [q]
          omega
        · exact h2 z q
      · refine .inr ⟨h1, ⟨r, ?_⟩, fun z hz => ?_⟩
        · rw [List.filter_cons, if_neg (by simp; omega)]
          exact h2
        · rcases List.mem_cons.mp hz with q | q
          · rw [q]
            omega
          · exact h3 z q
theorem IsTree.pos {pl : List Nm} {ts : List Tie} (F : IsTree pl ts) {u x : Nm} (hu : u ∈ pl) (hx : x ∈ pl) (n : u ≠ x) : 1 ≤ dist ts u x := by
  have w := F.the_way hu hx
  have k := Way.nonneg (fun e he => (F.ties e he).2.2.1) w
  obtain ⟨q, e1⟩ := w.first
  obtain ⟨q', e2⟩ := w.last
  have l2 : 2 ≤ (path ts u x).length := by
    cases q with
    | nil =>
      rw [e1] at e2
      have := congrArg List.getLast? e2
      rw [List.getLast?_append] at this
      simp at this
      exact absurd this n
    | cons a r =>
      rw [e1]
      simp
  omega
theorem prs_ne {pl : List Nm} {ts : List Tie} (nd : pl.Nodup) {x : Tri} : ∀ {n : Nat}, n ≤ pl.length → x ∈ prs pl ts n → x.2.1 ≠ x.2.2
  | 0, _, h => by cases h
  | n + 1, hn, h => by
    rw [prs_succ] at h
    rcases List.mem_append.mp h with h | h
    · exact prs_ne nd (by omega) h
    · obtain ⟨y, hy, rfl⟩ := List.mem_map.mp h
      show pl.getD n [] ≠ y
      have e : pl.getD n [] = pl[n]'(by omega) := by simp [List.getD, show n < pl.length by omega]
      rw [e]
      intro z
      obtain ⟨j, hj, ej⟩ := List.mem_iff_getElem.mp hy
      rw [List.getElem_drop, ← z] at ej
      rw [List.length_drop] at hj
      have := (List.getElem_inj nd).mp ej
      omega
theorem pairs_pos {pl : List Nm} {ts : List Tie} (F : Fine pl ts) {x : Tri} (h : x ∈ pairsOf pl ts) : 1 ≤ x.1 := by
  obtain ⟨h1, h2, h3⟩ := mem_pairs h
  rw [h3]
  exact F.tree.pos h1 h2 (prs_ne F.tree.nodup (Nat.le_refl _) h)
theorem farD_top {pl : List Nm} {ts : List Tie} (F : Fine pl ts) : farD pl ts = triD (topT (0, pl.headD [], pl.headD []) (pairsOf pl ts)) ∧ (pairsOf pl ts ≠ [] → (topT (0, pl.headD [], pl.headD []) (pairsOf pl ts)).1 = best (pairsOf pl ts)) := by
  have hp : ∀ x ∈ pairsOf pl ts, 1 ≤ x.1 := fun x hx => pairs_pos F hx
  unfold farD farOf
  generalize pairsOf pl ts = ps at hp
  rcases topT_is ps (0, pl.headD [], pl.headD []) with ⟨h1, h2⟩ | ⟨h1, ⟨r, h2⟩, h3⟩
  · cases ps with
    | nil => exact ⟨by rw [h1]; rfl, fun z => absurd rfl z⟩
    | cons x r =>
      have a := hp x (List.mem_cons_self ..)
      have b := h2 x (List.mem_cons_self ..)
      exact absurd b (by show ¬ x.1 ≤ 0; omega)
  · generalize topT (0, pl.headD [], pl.headD []) ps = m at *
    have hb : best ps = m.1 := by
      refine best_is (List.mem_map.mpr ⟨m, ?_, rfl⟩) fun y hy => ?_
      · have : m ∈ ps.filter fun x => x.1 == m.1 := by
          rw [h2]
          exact List.mem_cons_self ..
        exact (List.mem_filter.mp this).1
      · obtain ⟨z, hz, rfl⟩ := List.mem_map.mp hy
        exact h3 z hz
    rw [hb, h2]
    exact ⟨rfl, fun _ => rfl⟩
abbrev s_farthest : Stmt := topS 14
abbrev N_farthest : List Str := ["tree", "first", "told", "pair"]
theorem sc_farthest : FnScope N_farthest ["tree"] (defScope s_farthest) := ⟨rfl, rfl, rfl, by decide +kernel, rfl, by decide +kernel, by decide +kernel⟩
abbrev s_all_farthest : Stmt := topS 15
abbrev N_all_farthest : List Str := ["tree", "greatest", "pairs", "length", "one", "other"]
theorem sc_all_farthest : FnScope N_all_farthest ["tree"] (defScope s_all_farthest) := ⟨rfl, rfl, rfl, by decide +kernel, rfl, by decide +kernel, by decide +kernel⟩
section
variable {P : Program} {w : World} {K : PySem.W.Frag} {mg : Str → Option Value} {base : Heap}
def spFarthest : Sp := fun vs H Q _ => ∃ (v : V) (pl : List Nm) (ts : List Tie), vs = [v] ∧ Dt H v (treeD pl ts) ∧ Fine pl ts ∧ ∀ (H' : Hp) (r : V), Same H H' → Dt H' r (farD pl ts) → Q r H'
def spAllFarthest : Sp := fun vs H Q _ => ∃ (v : V) (pl : List Nm) (ts : List Tie), vs = [v] ∧ Dt H v (treeD pl ts) ∧ Fine pl ts ∧ ∀ (H' : Hp) (r : V), Same H H' → Dt H' r (allD pl ts) → Q r H'
theorem ok_farthest {f : Addr} {fd : FuncData} (F : Fun K "farthest" "farthest" s_farthest f fd) (Cpairs_in_order : Cal P w K mg base 4 "pairs_in_order" spPio) : FnOk P w K mg base CX0 5 f fd ["tree"] spFarthest := by
  refine F.ok sc_farthest (fun vs H Q E h => ?_) (fun cdv A outer s H vs Q E hr h => ?_)
  · obtain ⟨v, pl, ts, rfl, _⟩ := h
    rfl
  · obtain ⟨v, pl, ts, rfl, hd, fine, q⟩ := h
    obtain ⟨t, a, b, vs, rfl, ht, ha, hb, hA⟩ := dt_tree hd
    refine ⟨_, (pss_cons (ps_set (i := 1) sc_farthest.nd rfl (.inl rfl) (pe_ix ix_tup (pe_ix ix_tup (pv 0) pe_int (fun _ _ => rfl)) pe_int (fun _ _ => rfl)))
      (pss_cons (ps_set (i := 2) sc_farthest.nd rfl (.inl rfl) (pe_tup (pa_cons pe_int (pa_cons (pv 1) (pa_cons (pv 1) pa_nil)))))
      (pss_cut (ps_for PassesOwn.never rfl (pi_list (pe_c Cpairs_in_order hr (by decide) rfl (pa_cons (pv 0) pa_nil))) (pg_name (i := 3) sc_farthest.nd rfl (.inl rfl))
        (pss_one (ps_if (pt_cmpR op_gt (pe_ix ix_tup (pv 3) pe_int (fun _ _ => rfl)) (pe_ix ix_tup (pv 2) pe_int (fun _ _ => rfl)) (nomark _))
          (pss_one (ps_set (i := 2) sc_farthest.nd rfl (.inl rfl) (pv 3)))
          pss_nil)))
      (pss_one (ps_ret (pv 2)))))), ?_⟩
    obtain ⟨p0, pr, epl⟩ : ∃ p0 pr, pl = p0 :: pr := by
      cases hp : pl with
      | nil => exact absurd hp fine.ne
      | cons a r => exact ⟨a, r, rfl⟩
    have g0 : ((pl.map S).map V.str)[0]? = some (.str (S p0)) := by rw [epl]; rfl
    refine ⟨_, rfl, t, _, 0, .ref a, rfl, rfl, SqT.of ht, atI_nat (j := 0) rfl, a, _, 0, _, rfl, rfl, ha.sq, atI_nat (j := 0) g0, ?_⟩
    refine ⟨_, rfl, _, rfl, (by show 3 ≤ sizeLine; decide), fun T0 nT0 => ?_⟩
    have S1 := same_new (o := .tup [.int 0, .str (S p0), .str (S p0)]) (Same.refl H) nT0
    have h0 : (upd H T0 (.tup [.int 0, .str (S p0), .str (S p0)])) T0 = some (.tup [.int 0, .str (S p0), .str (S p0)]) := upd_same
    generalize upd H T0 (.tup [.int 0, .str (S p0), .str (S p0)]) = H1 at S1 h0
    refine ⟨fun σ' H' => ∃ (r : Addr) (x3 : Option V), σ' = [some (.ref t), some (.str (S p0)), some (.ref r), x3] ∧ Same H H' ∧ Dt H' (.ref r) (triD (topT (0, pl.headD [], pl.headD []) (pairsOf pl ts))), ?_, fun σ' H' hM => ?_⟩
    · refine ⟨_, rfl, .ref t, pl, ts, rfl, Dt.keep (TK.of S1) hd, fine, fun H2 D ws S2 nD hD hW => ?_⟩
      have wl := DtAll.len hW
      rw [List.length_map] at wl
      refine ⟨D, rfl, ⟨_, SqL.of hD⟩, for_list (K := K) (a := D) (xs := ws) (fun i σ' H' => H' = H2 ∧ ∃ (r : Addr) (x3 : Option V), σ' = [some (.ref t), some (.str (S p0)), some (.ref r), x3] ∧ H2 r = some (.tup [.int (topT (0, pl.headD [], pl.headD []) ((pairsOf pl ts).take i)).1, .str (S (topT (0, pl.headD [], pl.headD []) ((pairsOf pl ts).take i)).2.1), .str (S (topT (0, pl.headD [], pl.headD []) ((pairsOf pl ts).take i)).2.2)])) ⟨rfl, T0, none, rfl, ?_⟩ (fun i σ' H' _ hP => by rw [hP.1]; exact SqL.of hD) (fun i v σ' H' hi hP => ?_) (fun σ' H' hP => ?_)⟩
      · rw [List.take_zero]
        show H2 T0 = some (.tup [.int 0, .str (S (pl.headD [])), .str (S (pl.headD []))])
        rw [epl]
        exact S2 _ _ h0
      · obtain ⟨rfl, r, x3, rfl, hr2⟩ := hP
        obtain ⟨d, hd, hx⟩ := DtAll.get hW hi
        rw [List.getElem?_map] at hd
        cases ee : (pairsOf pl ts)[i]? with
        | none => rw [ee] at hd; cases hd
        | some y =>
          rw [ee] at hd
          have ed : d = triD y := (Option.some.inj hd).symm
          subst ed
          obtain ⟨u, rfl, hu⟩ := dt_tri hx
          have et : (pairsOf pl ts).take (i + 1) = (pairsOf pl ts).take i ++ [y] := by
            rw [List.take_add_one, ee]
            rfl
          rw [et, topT_snoc]
          refine ⟨_, rfl, u, _, 0, _, rfl, rfl, SqT.of hu, atI_nat (j := 0) rfl, _, rfl, r, _, 0, _, rfl, rfl, SqT.of hr2, atI_nat (j := 0) rfl, _, _, rfl, rfl, _, rfl, ?_⟩
          refine ite2 (fun z => ?_) (fun z => ?_)
          · have z : y.1 > (topT (0, pl.headD [], pl.headD []) ((pairsOf pl ts).take i)).1 := of_decide_eq_true z
            rw [if_pos z]
            exact ⟨_, rfl, rfl, u, _, rfl, hu⟩
          · have z : ¬ y.1 > (topT (0, pl.headD [], pl.headD []) ((pairsOf pl ts).take i)).1 := fun k => z (decide_eq_true k)
            rw [if_neg z]
            exact ⟨rfl, r, _, rfl, hr2⟩
      · obtain ⟨rfl, r, x3, rfl, hr2⟩ := hP
        rw [wl, List.take_length] at hr2
        exact ⟨r, x3, rfl, S1.trans S2, .tup hr2 (.cons (.int _) (.cons (.str _) (.cons (.str _) .nil)))⟩
    · obtain ⟨r, x3, rfl, SM, hr2⟩ := hM
      refine ⟨_, rfl, q H' _ SM ?_⟩
      rw [(farD_top fine).1]
      exact hr2
theorem ok_all_farthest {f : Addr} {fd : FuncData} (F : Fun K "all_farthest" "all_farthest" s_all_farthest f fd) (T : TxtQ mg) (Cpairs_in_order : Cal P w K mg base 4 "pairs_in_order" spPio) (Cfarthest : Cal P w K mg base 5 "farthest" spFarthest) : FnOk P w K mg base CX0 6 f fd ["tree"] spAllFarthest := by
  refine F.ok sc_all_farthest (fun vs H Q E h => ?_) (fun cdv A outer s H vs Q E hr h => ?_)
  · obtain ⟨v, pl, ts, rfl, _⟩ := h
    rfl
  · obtain ⟨v, pl, ts, rfl, hd, fine, q⟩ := h
    refine ⟨_, (pss_cons (ps_set (i := 1) sc_all_farthest.nd rfl (.inr rfl) (pe_ix ix_tup (pe_c Cfarthest hr (by decide) rfl (pa_cons (pv 0) pa_nil)) pe_int (fun _ _ => rfl)))
      (pss_cons (ps_set (i := 2) sc_all_farthest.nd rfl (.inl rfl) (pe_c Cpairs_in_order hr (by decide) rfl (pa_cons (pv 0) pa_nil)))
      (pss_one (ps_ret (pe_tupleOf (by rfl) T.tuple (pe_lc (own := [("length", 3), ("one", 4), ("other", 5)]) (g := gTup K 3 (gCons (gName 3) (gCons (gName 4) (gCons (gName 5) gNil))))  rfl sc_all_farthest.nd (pi_list (pv 2)) (blkOk_by (N := N_all_farthest) (sc := defScope s_all_farthest) (by decide +kernel)) (fun _ _ _ _ _ => (pg_tup rfl (pgs_cons (pg_name (i := 3) sc_all_farthest.nd rfl (.inl rfl)) (pgs_cons (pg_name (i := 4) sc_all_farthest.nd rfl (.inl rfl)) (pgs_cons (pg_name (i := 5) sc_all_farthest.nd rfl (.inl rfl)) pgs_nil))))) (fun _ _ _ _ _ => pts_one (pt_cmpR op_eq (pv 3) (pv 1) (nomark _))) (fun _ _ _ _ _ => (pe_tup (pa_cons (pv 4) (pa_cons (pv 5) pa_nil)))))))))), ?_⟩
    refine ⟨_, rfl, v, pl, ts, rfl, hd, fine, fun H1 r S1 hr1 => ?_⟩
    obtain ⟨e1, e2⟩ := farD_top fine
    rw [e1] at hr1
    generalize topT (0, pl.headD [], pl.headD []) (pairsOf pl ts) = top at e2 hr1
    obtain ⟨u, rfl, hu⟩ := dt_tri hr1
    refine ⟨u, _, 0, _, rfl, rfl, SqT.of hu, atI_nat (j := 0) rfl, ?_⟩
    refine ⟨_, rfl, v, pl, ts, rfl, Dt.keep (TK.of S1) hd, fine, fun H2 D ws S2 nD hD hW => ?_⟩
    have wl := DtAll.len hW
    rw [List.length_map] at wl
    have p1000 := fine.len
    have pl1 : (pairsOf pl ts).length ≤ 1000 * 1000 := Nat.le_trans (prs_len pl ts _) (Nat.mul_le_mul p1000 p1000)
    have hf : (pairsOf pl ts).filter (fun x => x.1 == top.1) = farOf pl ts := by
      unfold farOf
      cases hp : pairsOf pl ts with
      | nil => rfl
      | cons a r => rw [← hp, e2 (by rw [hp]; intro z; cases z)]
    refine ⟨_, rfl, D, rfl, ⟨_, SqL.of hD⟩, fun C nC => ?_⟩
    have DC : D ≠ C := ne_of_none hD nC
    refine lc_list (K := K) (a := D) (xs := ws) (fun i H' => ∃ us, Same H2 H' ∧ H' C = some (.lst us) ∧ DtAll H' us ((((pairsOf pl ts).take i).filter fun x => x.1 == top.1).map fun x => .tuple [.str (S x.2.1), .str (S x.2.2)])) ⟨[], same_new (Same.refl H2) nC, upd_same, .nil⟩ (fun i H' _ hP => ?_) (fun i v H' hi hP => ?_) (fun H' hP => ?_)
    · obtain ⟨us, sm, _⟩ := hP
      exact SqL.of (sm _ _ hD)
    · obtain ⟨us, sm, hC, hU⟩ := hP
      have ul := DtAll.len hU
      rw [List.length_map] at ul
      have fi : (((pairsOf pl ts).take i).filter fun x => x.1 == top.1).length ≤ 1000 * 1000 := by
        refine Nat.le_trans (List.length_filter_le _ _) ?_
        rw [List.length_take]
        omega
      obtain ⟨d, hd, hx⟩ := DtAll.get hW hi
      rw [List.getElem?_map] at hd
      cases ee : (pairsOf pl ts)[i]? with
      | none => rw [ee] at hd; cases hd
      | some x =>
        rw [ee] at hd
        have ed : d = triD x := (Option.some.inj hd).symm
        subst ed
        obtain ⟨u2, rfl, hu2⟩ := dt_tri hx
        have et : (pairsOf pl ts).take (i + 1) = (pairsOf pl ts).take i ++ [x] := by
          rw [List.take_add_one, ee]
          rfl
        rw [et, List.filter_append, List.map_append]
        refine ⟨u2, _, rfl, SqT.of (sm _ _ hu2), rfl, _, _, rfl, _, _, rfl, _, _, rfl, rfl, rfl, _, rfl, _, rfl, rfl, _, rfl, ?_⟩
        refine ite2 (fun z => ?_) (fun z => ?_)
        · have z : x.1 = top.1 := V.int.inj (of_decide_eq_true z)
          refine ⟨_, rfl, _, rfl, (by show 2 ≤ sizeLine; decide), fun e ne => ?_⟩
          have hC4 : (upd H' e (.tup [.str (S x.2.1), .str (S x.2.2)])) C = some (.lst us) := by
            rw [upd_ne (ne_of_none hC ne)]
            exact hC
          have tk : TK (upd H' e (.tup [.str (S x.2.1), .str (S x.2.2)])) (upd (upd H' e (.tup [.str (S x.2.1), .str (S x.2.2)])) C (.lst (us ++ [.ref e]))) := TK.mut hC4
          refine ⟨us, hC4, szM (by omega), us ++ [.ref e], same_put (same_new sm ne) nC, upd_same, ?_⟩
          rw [List.filter_cons, if_pos (by simp [z])]
          exact DtAll.app (DtAll.keep ((TK.new ne).trans tk) hU) (.cons (.tup (tk.tup _ _ upd_same) (.cons (.str _) (.cons (.str _) .nil))) .nil)
        · have z : x.1 ≠ top.1 := fun y => z (by rw [y]; exact decide_eq_true rfl)
          refine ⟨us, sm, hC, ?_⟩
          rw [List.filter_cons, if_neg (by simp [z]), List.filter_nil, List.map_nil, List.append_nil]
          exact hU
    · obtain ⟨us, sm, hC, hU⟩ := hP
      rw [wl, List.take_length, hf] at hU
      refine .inl ⟨C, us, rfl, SqL.of hC, fun q1 nq1 => ?_⟩
      exact q _ _ (same_new ((S1.trans S2).trans sm) nq1) (.tup upd_same (DtAll.keep (TK.new nq1) hU))
end
end Far

namespace Far
open PySem PySem.Spec PyProof.Rows L2
open SX (S)
/-! ### along a way the lengths rise -/
theorem Way.rising {pl : List Nm} {ts : List Tie} (F : IsTree pl ts) {u v : Nm} {p : List Nm} {L : Int} (h : Way ts u v p L) : (p.map (dist ts u)).Pairwise (· < ·) ∧ ∀ y ∈ p, dist ts u y ≤ L := by
  induction h with
  | nil =>
    refine ⟨by simp, fun y hy => ?_⟩
    rw [List.mem_singleton.mp hy, (F.dist_self u).1]
    exact Int.le_refl _
  | @snoc v w p L k hw ha hn ih =>
    have hk : 1 ≤ k := ha.elim (fun z => (F.ties _ z).2.2.1) fun z => (F.ties _ z).2.2.1
    have ew : dist ts u w = L + k := (F.is_way (Way.snoc hw ha hn)).2
    refine ⟨?_, fun y hy => ?_⟩
    · rw [List.map_append, List.pairwise_append]
      refine ⟨ih.1, by simp, fun a ha' b hb => ?_⟩
      obtain ⟨y, hy, rfl⟩ := List.mem_map.mp ha'
      have hb : b = dist ts u w := by simpa using hb
      rw [hb, ew]
      have := ih.2 y hy
      omega
    · rcases List.mem_append.mp hy with z | z
      · have := ih.2 y z
        omega
      · rw [List.mem_singleton.mp z, ew]
        exact Int.le_refl _
def cutIx (g : List Int) (W : Int) : Nat := (g.filter fun z => decide (2 * z < W)).length
theorem cutIx_iff {W : Int} : ∀ {g : List Int}, g.Pairwise (· < ·) → ∀ (i : Nat) (h : i < g.length), 2 * g[i] < W ↔ i < cutIx g W
  | [], _, i, h => absurd h (Nat.not_lt_zero _)
  | a :: r, hp, i, h => by
    obtain ⟨h1, h2⟩ := List.pairwise_cons.mp hp
    by_cases c : 2 * a < W
    · have e : cutIx (a :: r) W = cutIx r W + 1 := by
        unfold cutIx
        rw [List.filter_cons, if_pos (by simpa using c)]
        rfl
      rw [e]
      cases i with
      | zero => exact ⟨fun _ => Nat.succ_pos _, fun _ => c⟩
      | succ i =>
        have := cutIx_iff (W := W) h2 i (Nat.lt_of_succ_lt_succ h)
        show 2 * r[i]'(Nat.lt_of_succ_lt_succ h) < W ↔ _
        rw [this]
        omega
    · have hr : ∀ z ∈ r, ¬ 2 * z < W := fun z hz => by
        have := h1 z hz
        omega
      have e : cutIx (a :: r) W = 0 := by
        unfold cutIx
        rw [List.filter_cons, if_neg (by simpa using c), List.filter_eq_nil_iff.mpr (fun z hz => by simpa using hr z hz)]
        rfl
      rw [e]
      cases i with
      | zero => exact ⟨fun z => absurd z c, fun z => absurd z (Nat.lt_irrefl _)⟩
      | succ i => exact ⟨fun z => absurd z (hr _ (List.getElem_mem _)), fun z => absurd z (Nat.not_lt_zero _)⟩
/-! ### halves -/
def halfD (n : Int) : PyData := if n % 2 = 0 then .tuple [.int (n / 2), .int 1] else .tuple [.int n, .int 2]
theorem gcd_two (n : Int) : ((Nat.gcd n.natAbs (2 : Int).natAbs : Nat) : Int) = if n % 2 = 0 then 2 else 1 := by
  show ((Nat.gcd n.natAbs 2 : Nat) : Int) = _
  by_cases c : n % 2 = 0
  · rw [if_pos c, Nat.gcd_eq_right (by omega)]
    rfl
  · rw [if_neg c]
    have h1 : n.natAbs % 2 = 1 := by omega
    have : Nat.gcd n.natAbs 2 = 1 := by
      rw [Nat.gcd_comm, Nat.gcd_rec, h1]
      rfl
    rw [this]
    rfl
/-! ### the middle of the way between two places -/
noncomputable def goneOf (ts : List Tie) (u x : Nm) : List Int := (path ts u x).map (dist ts u)
noncomputable def midK (ts : List Tie) (u x : Nm) : Nat := cutIx (goneOf ts u x) (dist ts u x)
noncomputable def hi (ts : List Tie) (u x : Nm) : Nm := (path ts u x).getD (midK ts u x) []
noncomputable def lo (ts : List Tie) (u x : Nm) : Nm := (path ts u x).getD (midK ts u x - 1) []
/-- the point, and the half -/
noncomputable def pointD (pl : List Nm) (ts : List Tie) (u x : Nm) : PyData :=
  if 2 * dist ts u (hi ts u x) = dist ts u x then .tuple [strD (hi ts u x), strD (hi ts u x), .tuple [.int 0, .int 1]]
  else if pl.idxOf (lo ts u x) < pl.idxOf (hi ts u x) then .tuple [strD (lo ts u x), strD (hi ts u x), halfD (dist ts u x - 2 * dist ts u (lo ts u x))]
  else .tuple [strD (hi ts u x), strD (lo ts u x), halfD (2 * dist ts u (hi ts u x) - dist ts u x)]
structure MidF (pl : List Nm) (ts : List Tie) (u x : Nm) : Prop where
  kl : midK ts u x < (path ts u x).length
  hiE : (path ts u x)[midK ts u x]? = some (hi ts u x)
  hiM : hi ts u x ∈ path ts u x
  ge : dist ts u x ≤ 2 * dist ts u (hi ts u x)
  loE : 2 * dist ts u (hi ts u x) ≠ dist ts u x → 1 ≤ midK ts u x ∧ (path ts u x)[midK ts u x - 1]? = some (lo ts u x) ∧ lo ts u x ∈ path ts u x ∧ 2 * dist ts u (lo ts u x) < dist ts u x
  only : ∀ y ∈ path ts u x, 2 * dist ts u y = dist ts u x → y = hi ts u x
  low : ∀ y ∈ path ts u x, 2 * dist ts u y < dist ts u x → dist ts u y ≤ dist ts u (lo ts u x) ∧ (dist ts u y = dist ts u (lo ts u x) → y = lo ts u x)
  high : ∀ y ∈ path ts u x, dist ts u x < 2 * dist ts u y → dist ts u (hi ts u x) ≤ dist ts u y ∧ (dist ts u y = dist ts u (hi ts u x) → y = hi ts u x)
theorem mid_facts {pl : List Nm} {ts : List Tie} (F : IsTree pl ts) {u x : Nm} (hu : u ∈ pl) (hx : x ∈ pl) : MidF pl ts u x := by
  have w := F.the_way hu hx
  have rise := (w.rising F).1
  have iff := fun i h => cutIx_iff (W := dist ts u x) rise i h
  have gl : ((path ts u x).map (dist ts u)).length = (path ts u x).length := List.length_map _
  have g_at : ∀ (i : Nat) (h : i < (path ts u x).length), ((path ts u x).map (dist ts u))[i]'(by rw [gl]; exact h) = dist ts u ((path ts u x)[i]) := fun i h => List.getElem_map _
  have hk : midK ts u x = cutIx ((path ts u x).map (dist ts u)) (dist ts u x) := rfl
  obtain ⟨q, el⟩ := w.last
  obtain ⟨q', ef⟩ := w.first
  have d0 := (F.dist_self u).1
  have nn := (Way.nonneg (fun e he => (F.ties e he).2.2.1) w).1
  have plen : (path ts u x).length = q.length + 1 := by rw [el]; simp
  have plast : (path ts u x)[q.length]'(by omega) = x := by
    simp [el]
  have pfirst : (path ts u x)[0]'(by omega) = u := by
    simp [ef]
  have kl : midK ts u x < (path ts u x).length := by
    have h := iff q.length (by rw [gl]; omega)
    rw [g_at _ (by omega), plast] at h
    rw [hk]
    have : ¬ q.length < cutIx ((path ts u x).map (dist ts u)) (dist ts u x) := fun z => by
      have := h.mpr z
      omega
    omega
  have inj : ∀ (i j : Nat) (hi : i < (path ts u x).length) (hj : j < (path ts u x).length), i < j → dist ts u ((path ts u x)[i]) < dist ts u ((path ts u x)[j]) := fun i j hi hj lt => by
    have := List.pairwise_iff_getElem.mp rise i j (by rw [gl]; exact hi) (by rw [gl]; exact hj) lt
    rwa [g_at i hi, g_at j hj] at this
  have iff' : ∀ (i : Nat) (h : i < (path ts u x).length), 2 * dist ts u ((path ts u x)[i]) < dist ts u x ↔ i < midK ts u x := fun i h => by
    have := iff i (by rw [gl]; exact h)
    rwa [g_at i h] at this
  have ehi : hi ts u x = (path ts u x)[midK ts u x] := by
    unfold hi
    simp [List.getD, kl]
  have ge : dist ts u x ≤ 2 * dist ts u (hi ts u x) := by
    rw [ehi]
    have := (iff' _ kl).mp
    by_cases c : 2 * dist ts u ((path ts u x)[midK ts u x]) < dist ts u x
    · exact absurd (this c) (Nat.lt_irrefl _)
    · omega
  have elo : lo ts u x = (path ts u x)[midK ts u x - 1]'(by omega) := by
    unfold lo
    simp [List.getD, show midK ts u x - 1 < (path ts u x).length by omega]
  refine ⟨kl, by rw [ehi]; exact List.getElem?_eq_getElem kl, by rw [ehi]; exact List.getElem_mem _, ge, fun ne => ?_, fun y hy e => ?_, fun y hy lt => ?_, fun y hy lt => ?_⟩
  · have k1 : 1 ≤ midK ts u x := by
      by_cases c : 1 ≤ midK ts u x
      · exact c
      · exfalso
        have k0 : midK ts u x = 0 := by omega
        have e0 : hi ts u x = u := by
          rw [ehi]
          simp only [k0]
          exact pfirst
        rw [e0, d0] at ne ge
        omega
    refine ⟨k1, by rw [elo]; exact List.getElem?_eq_getElem _, by rw [elo]; exact List.getElem_mem _, ?_⟩
    rw [elo]
    exact (iff' _ (by omega)).mpr (by omega)
  · obtain ⟨i, hi', rfl⟩ := List.mem_iff_getElem.mp hy
    have ni : ¬ i < midK ts u x := fun z => by
      have := (iff' i hi').mpr z
      omega
    by_cases c : i = midK ts u x
    · subst c
      rw [ehi]
    · have := inj _ _ kl hi' (by omega)
      rw [← ehi] at this
      omega
  · obtain ⟨i, hi', rfl⟩ := List.mem_iff_getElem.mp hy
    have li := (iff' i hi').mp lt
    rw [elo]
    by_cases c : i = midK ts u x - 1
    · subst c
      exact ⟨Int.le_refl _, fun _ => rfl⟩
    · have := inj i (midK ts u x - 1) hi' (by omega) (by omega)
      exact ⟨by omega, fun z => by omega⟩
  · obtain ⟨i, hi', rfl⟩ := List.mem_iff_getElem.mp hy
    have ni : ¬ i < midK ts u x := fun z => by
      have := (iff' i hi').mpr z
      omega
    rw [ehi]
    by_cases c : i = midK ts u x
    · subst c
      exact ⟨Int.le_refl _, fun _ => rfl⟩
    · have := inj _ _ kl hi' (by omega)
      exact ⟨by omega, fun z => by omega⟩
end Far

namespace Far
open PySem PySem.Spec PyProof.Rows L2
open SX (S)
theorem filt_first {α β : Type} (f : α → β) (p : β → Bool) : ∀ (l : List α) (j : Nat) (x : α), l[j]? = some x → p (f x) = true → (∀ i y, i < j → l[i]? = some y → p (f y) = false) → ∃ r, (l.map f).filter p = f x :: r
  | [], j, x, h, _, _ => by simp at h
  | a :: l, 0, x, h, hp, _ => by
    have e : a = x := by simpa using h
    subst e
    exact ⟨(l.map f).filter p, by rw [List.map_cons, List.filter_cons, if_pos hp]⟩
  | a :: l, j + 1, x, h, hp, hn => by
    obtain ⟨r, e⟩ := filt_first f p l j x (by simpa using h) hp fun i y hi hy => hn (i + 1) y (by omega) (by simpa using hy)
    have ha := hn 0 a (by omega) rfl
    exact ⟨r, by rw [List.map_cons, List.filter_cons, if_neg (by rw [ha]; decide)]; exact e⟩
section
variable {pl : List Nm} {ts : List Tie} {b : Int} {bi ei : Nat} {u x : Nm}
theorem none_before (hb : ∀ i y, i < bi → pl[i]? = some y → ∀ z ∈ pl, dist ts y z ≠ b) (hl : bi < pl.length) : ∀ m, m ≤ bi → (prs pl ts m).filter (fun t => t.1 == b) = []
  | 0, _ => rfl
  | m + 1, hm => by
    rw [prs_succ, List.filter_append, none_before hb hl m (by omega), List.nil_append, List.filter_eq_nil_iff]
    intro t ht
    have em : pl[m]? = some (pl.getD m []) := by simp [List.getD, show m < pl.length by omega]
    obtain ⟨y, hy, rfl⟩ := List.mem_map.mp ht
    have := hb m _ (by omega) em y (List.mem_of_mem_drop hy)
    simpa using this
theorem first_far (F : Fine pl ts) (hu : pl[bi]? = some u) (hx : pl[ei]? = some x) (hd : dist ts u x = b) (b1 : 1 ≤ b) (top : ∀ y ∈ pl, ∀ z ∈ pl, dist ts y z ≤ b)
    (hb : ∀ i y, i < bi → pl[i]? = some y → ∀ z ∈ pl, dist ts y z ≠ b) (he : ∀ j z, j < ei → pl[j]? = some z → dist ts u z ≠ b) : topT (0, pl.headD [], pl.headD []) (pairsOf pl ts) = (b, u, x) := by
  have mu := List.mem_of_getElem? hu
  have mx := List.mem_of_getElem? hx
  have lb : bi < pl.length := (List.getElem?_eq_some_iff.mp hu).1
  have le : ei < pl.length := (List.getElem?_eq_some_iff.mp hx).1
  have lt : bi < ei := by
    rcases Nat.lt_trichotomy bi ei with h | h | h
    · exact h
    · subst h
      have : u = x := Option.some.inj (hu.symm.trans hx)
      rw [← this, (F.tree.dist_self u).1] at hd
      omega
    · have := hb ei x h hx u mu
      rw [(F.tree.dist_symm mx mu).1] at this
      exact absurd hd this
  have base : ∃ r, (prs pl ts (bi + 1)).filter (fun t => t.1 == b) = (b, u, x) :: r := by
    rw [prs_succ, List.filter_append, none_before hb lb bi (Nat.le_refl _), List.nil_append]
    have eu : pl.getD bi [] = u := by
      show (pl[bi]?).getD [] = u
      rw [hu]
      rfl
    unfold rowP
    rw [eu]
    obtain ⟨r, e⟩ := filt_first (fun y => ((dist ts u y, u, y) : Tri)) (fun t => t.1 == b) (pl.drop (bi + 1)) (ei - (bi + 1)) x (by rw [List.getElem?_drop, show bi + 1 + (ei - (bi + 1)) = ei by omega]; exact hx) (by simpa using hd) fun i y hi hy => by
      rw [List.getElem?_drop] at hy
      have := he (bi + 1 + i) y (by omega) hy
      simpa using this
    rw [hd] at e
    exact ⟨r, e⟩
  have all : ∀ m, ∃ r, (prs pl ts (bi + 1 + m)).filter (fun t => t.1 == b) = (b, u, x) :: r := fun m => by
    induction m with
    | zero => exact base
    | succ m ih =>
      obtain ⟨r, e⟩ := ih
      refine ⟨r ++ (rowP pl ts (bi + 1 + m)).filter fun t => t.1 == b, ?_⟩
      rw [show bi + 1 + (m + 1) = bi + 1 + m + 1 by omega, prs_succ, List.filter_append, e]
      rfl
  obtain ⟨r, e⟩ := all (pl.length - (bi + 1))
  rw [show bi + 1 + (pl.length - (bi + 1)) = pl.length by omega] at e
  have e : (pairsOf pl ts).filter (fun t => t.1 == b) = (b, u, x) :: r := e
  have mem : (b, u, x) ∈ pairsOf pl ts := by
    have : (b, u, x) ∈ (pairsOf pl ts).filter fun t => t.1 == b := by
      rw [e]
      exact List.mem_cons_self ..
    exact (List.mem_filter.mp this).1
  rcases topT_is (pairsOf pl ts) (0, pl.headD [], pl.headD []) with ⟨_, h2⟩ | ⟨_, ⟨r', h2⟩, h3⟩
  · have := h2 _ mem
    exact absurd this (by show ¬ b ≤ 0; omega)
  · generalize topT (0, pl.headD [], pl.headD []) (pairsOf pl ts) = m at h2 h3
    have hm : m ∈ pairsOf pl ts := by
      have : m ∈ (pairsOf pl ts).filter fun x => x.1 == m.1 := by
        rw [h2]
        exact List.mem_cons_self ..
      exact (List.mem_filter.mp this).1
    obtain ⟨m1, m2, m3⟩ := mem_pairs hm
    have em : m.1 = b := by
      have h4 := h3 _ mem
      have h5 := top _ m1 _ m2
      rw [← m3] at h5
      have h4 : b ≤ m.1 := h4
      omega
    rw [em, e] at h2
    exact (List.cons.inj h2).1.symm
theorem top_in (F : Fine pl ts) : (topT (0, pl.headD [], pl.headD []) (pairsOf pl ts)).2.1 ∈ pl ∧ (topT (0, pl.headD [], pl.headD []) (pairsOf pl ts)).2.2 ∈ pl ∧ (topT (0, pl.headD [], pl.headD []) (pairsOf pl ts)).1 = dist ts (topT (0, pl.headD [], pl.headD []) (pairsOf pl ts)).2.1 (topT (0, pl.headD [], pl.headD []) (pairsOf pl ts)).2.2 := by
  have hh : pl.headD [] ∈ pl := by
    cases hp : pl with
    | nil => exact absurd hp F.ne
    | cons a r => exact List.mem_cons_self ..
  rcases topT_is (pairsOf pl ts) (0, pl.headD [], pl.headD []) with ⟨h1, _⟩ | ⟨_, ⟨r', h2⟩, _⟩
  · rw [h1]
    exact ⟨hh, hh, (F.tree.dist_self _).1.symm⟩
  · generalize topT (0, pl.headD [], pl.headD []) (pairsOf pl ts) = m at h2
    have hm : m ∈ pairsOf pl ts := by
      have : m ∈ (pairsOf pl ts).filter fun x => x.1 == m.1 := by
        rw [h2]
        exact List.mem_cons_self ..
      exact (List.mem_filter.mp this).1
    exact mem_pairs hm
end
noncomputable def topOf (pl : List Nm) (ts : List Tie) : Tri := topT (0, pl.headD [], pl.headD []) (pairsOf pl ts)
/-- what middle_point tells -/
noncomputable def middleD (pl : List Nm) (ts : List Tie) : PyData := .tuple [pointD pl ts (topOf pl ts).2.1 (topOf pl ts).2.2, halfD (topOf pl ts).1]
end Far

namespace Far
open PySem PySem.Spec PyProof.Rows L2
open C8 (pss_cut tCut)
open SX (S)
open RZ (ItzT iZipA pi_zipA)
structure TxtM (mg : Str → Option Value) : Prop where
  tuple : mg "tuple" = none
  max : mg "max" = none
  min : mg "min" = none
  zip : mg "zip" = none
  range : mg "range" = none
noncomputable def midN (pl : List Nm) (ts : List Tie) : Int := mnG (pl.map (rch pl ts))
noncomputable def foeD (pl : List Nm) (ts : List Tie) : PyData := .tuple ((pl.map (rch pl ts)).map .int)
noncomputable def midD (pl : List Nm) (ts : List Tie) : PyData := .tuple [.int (midN pl ts), thoseD pl (rch pl ts) (midN pl ts)]
abbrev s_farthest_of_each : Stmt := topS 20
abbrev N_farthest_of_each : List Str := ["tree", "place"]
theorem sc_farthest_of_each : FnScope N_farthest_of_each ["tree"] (defScope s_farthest_of_each) := ⟨rfl, rfl, rfl, by decide +kernel, rfl, by decide +kernel, by decide +kernel⟩
abbrev s_middles : Stmt := topS 21
abbrev N_middles : List Str := ["tree", "reaches", "least", "place", "reach"]
theorem sc_middles : FnScope N_middles ["tree"] (defScope s_middles) := ⟨rfl, rfl, rfl, by decide +kernel, rfl, by decide +kernel, by decide +kernel⟩
section
variable {P : Program} {w : World} {K : PySem.W.Frag} {mg : Str → Option Value} {base : Heap}
def spFoe : Sp := fun vs H Q _ => ∃ (v : V) (pl : List Nm) (ts : List Tie), vs = [v] ∧ Dt H v (treeD pl ts) ∧ Fine pl ts ∧ ∀ (H' : Hp) (q : Addr), Same H H' → H q = none → H' q = some (.tup ((pl.map (rch pl ts)).map V.int)) → Q (.ref q) H'
def spMid : Sp := fun vs H Q _ => ∃ (v : V) (pl : List Nm) (ts : List Tie), vs = [v] ∧ Dt H v (treeD pl ts) ∧ Fine pl ts ∧ ∀ (H' : Hp) (r : V), Same H H' → Dt H' r (midD pl ts) → Q r H'
theorem ok_foe {f : Addr} {fd : FuncData} (F : Fun K "farthest_of_each" "farthest_of_each" s_farthest_of_each f fd) (T : TxtM mg) (Clengths_from : Cal P w K mg base 3 "lengths_from" spLens) : FnOk P w K mg base CX0 4 f fd ["tree"] spFoe := by
  refine F.ok sc_farthest_of_each (fun vs H Q E h => ?_) (fun cdv A outer s H vs Q E hr h => ?_)
  · obtain ⟨v, pl, ts, rfl, _⟩ := h
    rfl
  · obtain ⟨v, pl, ts, rfl, hd, fine, q⟩ := h
    obtain ⟨t, a, b, vs, rfl, ht, ha, hb, hA⟩ := dt_tree hd
    have pl1 := fine.len
    refine ⟨_, (pss_one (ps_ret (pe_tupleOf (by rfl) T.tuple (pe_lc (own := [("place", 1)]) (g := gName 1) (tt := tYes) rfl sc_farthest_of_each.nd (pi_tup (pe_ix ix_tup (pv 0) pe_int (fun _ _ => rfl))) (blkOk_by (N := N_farthest_of_each) (sc := defScope s_farthest_of_each) (by decide +kernel)) (fun _ _ _ _ _ => pg_name (i := 1) sc_farthest_of_each.nd rfl (Or.inl rfl)) (fun _ _ _ _ _ => pts_nil) (fun _ _ _ _ _ => (pe_callB (cr_maxT (K := K) rfl) (by rfl) T.max bt_max (pa_cons (pe_c Clengths_from hr (by decide) rfl (pa_cons (pv 0) (pa_cons (pv 1) pa_nil))) pa_nil))))))), ?_⟩
    refine ⟨_, rfl, t, _, 0, .ref a, rfl, rfl, SqT.of ht, atI_nat (j := 0) rfl, a, rfl, ⟨_, ha.sq⟩, fun D nD => ?_⟩
    refine lc_tup (K := K) (a := a) (xs := (pl.map S).map V.str) (fun i H' => Same H H' ∧ H' D = some (.lst (((pl.take i).map (rch pl ts)).map V.int))) ⟨same_new (Same.refl H) nD, upd_same⟩ (fun i H' _ hP => (ha.same hP.1).sq) (fun i v H' hi hP => ?_) (fun H' hP => ?_)
    · obtain ⟨SM, hD⟩ := hP
      obtain ⟨x, ex, hx, rfl, et⟩ := at_name hi
      refine ⟨rfl, _, rfl, _, rfl, .ref t, pl, ts, x, rfl, Dt.keep (TK.of SM) hd, fine, hx, fun H2 L S2 nL hL => ?_⟩
      rw [map_int] at hL
      refine ⟨L, _, rfl, SqT.of hL, by rw [List.length_map]; exact List.length_pos_of_mem hx, fun m hm hle => ?_⟩
      rw [mxG_is hm hle]
      refine ⟨_, S2 _ _ hD, ?_, same_put (SM.trans S2) nD, ?_⟩
      · rw [List.length_map, List.length_map, List.length_take]
        exact sz_lt (by omega)
      · rw [upd_same, et, List.map_append, List.map_append]
        rfl
    · obtain ⟨SM, hD⟩ := hP
      rw [List.length_map, List.length_map, List.take_length] at hD
      exact .inl ⟨D, _, rfl, SqL.of hD, fun q1 nq1 => q _ q1 (same_new SM nq1) (SM.free nq1) upd_same⟩
theorem ok_middles {f : Addr} {fd : FuncData} (F : Fun K "middles" "middles" s_middles f fd) (T : TxtM mg) (Cfarthest_of_each : Cal P w K mg base 4 "farthest_of_each" spFoe) : FnOk P w K mg base CX0 5 f fd ["tree"] spMid := by
  refine F.ok sc_middles (fun vs H Q E h => ?_) (fun cdv A outer s H vs Q E hr h => ?_)
  · obtain ⟨v, pl, ts, rfl, _⟩ := h
    rfl
  · obtain ⟨v, pl, ts, rfl, hd, fine, q⟩ := h
    obtain ⟨t, a, b, vs, rfl, ht, ha, hb, hA⟩ := dt_tree hd
    have pl1 := fine.len
    have pl0 : 0 < (pl.map (rch pl ts)).length := by
      rw [List.length_map]
      exact List.length_pos_iff.mpr fine.ne
    refine ⟨_, (pss_cons (ps_set (i := 1) sc_middles.nd rfl (.inl rfl) (pe_c Cfarthest_of_each hr (by decide) rfl (pa_cons (pv 0) pa_nil)))
      (pss_cons (ps_set (i := 2) sc_middles.nd rfl (.inr rfl) (pe_callB (cr_minT (K := K) rfl) (by rfl) T.min bt_min (pa_cons (pv 1) pa_nil)))
      (pss_one (ps_ret (pe_tup (pa_cons (pv 2) (pa_cons (pe_tupleOf (by rfl) T.tuple (pe_lc (own := [("place", 3), ("reach", 4)]) (g := gTup K 2 (gCons (gName 3) (gCons (gName 4) gNil)))  rfl sc_middles.nd (pi_zipA (by rfl) T.zip (pa_cons (pe_ix ix_tup (pv 0) pe_int (fun _ _ => rfl)) (pa_cons (pv 1) pa_nil))) (blkOk_by (N := N_middles) (sc := defScope s_middles) (by decide +kernel)) (fun _ _ _ _ _ => (pg_tup rfl (pgs_cons (pg_name (i := 3) sc_middles.nd rfl (.inl rfl)) (pgs_cons (pg_name (i := 4) sc_middles.nd rfl (.inl rfl)) pgs_nil)))) (fun _ _ _ _ _ => pts_one (pt_cmpR op_eq (pv 4) (pv 2) (nomark _))) (fun _ _ _ _ _ => (pv 3)))) pa_nil))))))), ?_⟩
    refine ⟨_, rfl, .ref t, pl, ts, rfl, hd, fine, fun H1 L S1 nL hL => ?_⟩
    refine ⟨_, rfl, L, _, rfl, SqT.of hL, pl0, fun m hm hle => ?_⟩
    have em := mnG_is hm hle
    subst em
    refine ⟨_, rfl, _, rfl, t, _, 0, .ref a, rfl, rfl, SqT.of (S1 _ _ ht), atI_nat (j := 0) rfl, _, rfl, a, L, _, _, rfl, .inr ⟨(ha.same S1).sq, SqT.of hL, fun D nD => ?_⟩⟩
    refine zip_it (xs := (pl.map S).map V.str) (ys := (pl.map (rch pl ts)).map V.int) (by simp) (fun i H' => Same H1 H' ∧ H' D = some (.lst ((((pl.take i).filter fun x => rch pl ts x == midN pl ts).map S).map V.str))) ⟨same_new (Same.refl H1) nD, upd_same⟩ (fun i H' hP => ⟨(ha.same (S1.trans hP.1)).sq, SqT.of (hP.1 _ _ hL)⟩) (fun i x y H' T hx hy hP nT => ?_) (fun H' hP => ?_)
    · obtain ⟨SM, hD⟩ := hP
      obtain ⟨l, ex, hl, rfl, et⟩ := at_name hx
      rw [List.getElem?_map, List.getElem?_map, ex] at hy
      cases hy
      have et := take_snoc_filter (f := rch pl ts) (n := midN pl ts) et
      have DT : D ≠ T := ne_of_none hD nT
      have hD2 : (upd H' T (.tup [.str (S l), .int (rch pl ts l)])) D = some (.lst ((((pl.take i).filter fun x => rch pl ts x == midN pl ts).map S).map V.str)) := by
        rw [upd_ne DT]
        exact hD
      refine ⟨T, _, rfl, SqT.of upd_same, rfl, _, _, rfl, _, _, rfl, rfl, rfl, _, rfl, _, rfl, rfl, _, rfl, ?_⟩
      refine ite2 (fun z => ?_) (fun z => ?_)
      · have z : rch pl ts l = midN pl ts := V.int.inj (of_decide_eq_true z)
        rw [if_pos z] at et
        refine ⟨_, rfl, _, hD2, ?_, same_put (same_new SM nT) nD, ?_⟩
        · rw [List.length_map, List.length_map]
          refine sz_lt ?_
          have := List.length_filter_le (fun x => rch pl ts x == midN pl ts) (pl.take i)
          rw [List.length_take] at this
          omega
        · rw [upd_same, et, List.map_append, List.map_append]
          rfl
      · have z : rch pl ts l ≠ midN pl ts := fun y => z (by rw [show mnG (pl.map (rch pl ts)) = midN pl ts from rfl, y]; exact decide_eq_true rfl)
        rw [if_neg z, List.append_nil] at et
        exact ⟨same_new SM nT, by rw [et]; exact hD2⟩
    · obtain ⟨SM, hD⟩ := hP
      rw [List.length_map, List.length_map, List.take_length] at hD
      refine .inl ⟨D, _, rfl, SqL.of hD, fun q1 nq1 => ?_⟩
      refine ⟨(by show 2 ≤ sizeLine; decide), fun q2 nq2 => ?_⟩
      refine q _ _ (same_new (same_new (S1.trans SM) nq1) nq2) (.tup upd_same (.cons (.int _) (.cons (.tup ?_ (dts_S _ _)) .nil)))
      rw [upd_ne (ne_of_none upd_same nq2)]
      exact upd_same
end
end Far

namespace Far
open PySem PySem.Spec PyProof.Rows L2
section
variable {X : Cx} {a o e : Expr} {ta to te : TE}
/-- tuple(xs) of a list, the new tuple known through and through -/
def tTupZ (K : PySem.W.Frag) (ta : TE) : TE := fun σ H Q => ta σ H fun x H1 => ∃ (l : Addr) (xs : List V), x = .ref l ∧ SqL K H1 l xs ∧ ∀ (p : Addr) (o : Obj), H1 p = none → o.dict = none → Q (.ref p) (upd H1 p (.frz o (.tup xs)))
theorem pe_tupleZ {p pos : Pos} (hg : Gl X "tuple") (hm : X.mg "tuple" = none) (ha : PE X a ta) (na : starEach [a] X.env = (false, eval a X.env) :: starEach [] X.env := by rfl) : PE X (.Call (.Name "tuple" p) [a] [] pos) (tTupZ X.K ta) := by
  refine ⟨fun pins s σ H Q I h => ?_⟩
  refine Call_ (ld_blt I hg hm bt_tuple (PyProof.Rows.callWith_type1 (one_arg ha I h (fun v s2 x H2 I2 r q => ?_) na) na))
  obtain ⟨l, xs, rfl, hq, q⟩ := q
  cases r
  obtain ⟨its, rv, pl, hz⟩ := I2.list hq
  refine call_tuple_list pl.isList (fun h' k => ?_) (by rw [List.size_toArray, ← rv.length]; exact hz)
  have I3 : Inv X pins σ H2 { s2 with heap := h' } := I2.kept (t' := s2.toks) k
  have new : (h'.push { cls := .type "tuple", data := .seq its.toArray }).get? h'.objs.size = some ({ cls := .type "tuple", data := .seq its.toArray } : Obj) := Heap.get?_push_size _ rfl
  exact ⟨.ref h'.objs.size, _, I3.laid (t' := s2.toks) (o := .frz { cls := .type "tuple", data := .seq its.toArray } (.tup xs)) (fun b o e => Heap.get?_push_of_some _ e) (Nat.le_refl _)
    (show ObjOk X.prog X.w _ _ _ (.frz _ (.tup xs)) from ⟨new, hz, its, rv, IsTup.new _ _⟩), rfl, q _ _ (I3.hok.fresh (Nat.le_refl _)) rfl⟩
/-- t.index(x), the first place, of a tuple of texts known through and through -/
def tIxZ (to te : TE) : TE := fun σ H Q => to σ H fun x H1 => ∃ (p : Addr) (ys : List Str) (u : Obj), x = .ref p ∧ u.dict = none ∧ H1 p = some (.frz u (.tup (ys.map V.str))) ∧ te σ H1 fun y H2 => H2 p = H1 p ∧ ∃ (z : Str) (j : Nat), y = .str z ∧ ys[j]? = some z ∧ (∀ m, m < j → ys[m]? ≠ some z) ∧ Q (.int (j : Nat)) H2
theorem pe_ixZ {apos cpos : Pos} (ho : PE X o to) (he : PE X e te) (hbase : attributeBase o "index" X.env (eval o X.env) = eval o X.env := by rfl)
    (hfew : ((backTo cpos (starEach [e] X.env)).all (fun x => !x.1) && (backToKw cpos (keywordEach [] X.env)).all (fun x => x.1.isSome)
      && decide ([e].length + ([] : List Keyword).length + (if ([] : List Keyword).isEmpty then 0 else 1) < 30)) = true := by rfl)
    (hline : (apos.endLine == cpos.line) = true := by rfl) (na : starEach [e] X.env = (false, eval e X.env) :: starEach [] X.env := by rfl) :
    PE X (.Call (.Attribute o "index" apos) [e] [] cpos) (tIxZ to te) := by
  refine ⟨fun pins s σ H Q I h => ?_⟩
  refine wpAny_Call_method_late hbase hfew hline rfl (thn (ho.run pins s σ H _ I h) fun v s1 ⟨x, H1, I1, r1, q1⟩ => ?_)
  obtain ⟨p, ys, u, rfl, hd, hp, q1⟩ := q1
  cases r1
  have fz : ObjOk X.prog X.w H1 s1.heap p (.frz u (.tup (ys.map V.str))) := I1.hok p _ hp
  obtain ⟨hu, hz, its, rv, it⟩ := fz
  refine ⟨"tuple", "tuple.index", PySem.F.plainAttrs_tuple, PySem.F.slot_tuple_index, PySem.F.type_tuple_index, it.typeIs, fun c e => by cases e; exact ⟨u, hu, hd⟩, ?_⟩
  have hA : wpAny (model X.prog X.w) X.A (spliced (backTo cpos (starEach [e] X.env))) (fun us s2 => wpAny (model X.prog X.w) X.A (call (.builtin "tuple.index") (.ref p :: us)) (EP X pins σ Q) X.xe s2) X.xe s1 :=
    one_arg he I1 q1 (fun y s2 x H2 I2 r2 q2 => by
      obtain ⟨same, z, j, rfl, hj, hno, q⟩ := q2
      exact mt_tup_index pins s2 σ H2 (.ref p) [.str z] (.ref p) [y] Q I2 rfl (.cons r2 .nil) ⟨p, ys, z, j, rfl, rfl, .inl (.inr ⟨u, same.trans hp⟩), hj, hno, q⟩) na
  rw [na] at hA ⊢
  exact Calls.callWith_builtin (by rfl) (Calls.evalArgs_plain hA)
/-- (a, b, ..), the new tuple known through and through -/
def tTupD (ta : TA) : TE := fun σ H Q => ta σ H fun xs H1 => xs.length ≤ sizeLine ∧ ∀ (p : Addr) (o : Obj), H1 p = none → o.dict = none → Q (.ref p) (upd H1 p (.frz o (.tup xs)))
theorem pe_tupD {es : List Expr} {x1 : Nat} {pos : Pos} {t : TA} (h : PA X es t) : PE X (.Tuple es x1 pos) (tTupD t) := by
  refine ⟨fun pins s σ H Q I hq => ?_⟩
  refine wpAny_Tuple_spliced (thn (h.run pos pins s σ H _ I hq) fun us s1 ⟨xs, H1, I1, r, z, q⟩ => ⟨by rw [← r.length]; exact z, ?_⟩)
  have hf : H1 s1.heap.objs.size = none := I1.hok.fresh (Nat.le_refl _)
  have new : (s1.heap.push { cls := .type "tuple", data := .seq us.toArray }).get? s1.heap.objs.size = some ({ cls := .type "tuple", data := .seq us.toArray } : Obj) := Heap.get?_push_size _ rfl
  refine ⟨.ref s1.heap.objs.size, upd H1 s1.heap.objs.size (.frz { cls := .type "tuple", data := .seq us.toArray } (.tup xs)), I1.laid (t' := s1.toks) (fun b u e => Heap.get?_push_of_some _ e) (Nat.le_refl _) ?_, rfl, q _ _ hf rfl⟩
  exact (show ObjOk X.prog X.w _ _ _ (.frz _ (.tup xs)) from ⟨new, z, us, r, IsTup.new _ _⟩)
end
end Far

namespace Far
open PySem PySem.Spec PyProof.Rows L2
open C8 (pss_cut tCut)
open SX (S)
def pre (j : Nat) : Nm := [97 + j % 26] ++ [97 + j / 26 % 26]
theorem pre_inj {i j : Nat} (hi : i < 676) (hj : j < 676) (h : pre i = pre j) : i = j := by
  unfold pre at h
  simp at h
  omega
/-- names taken already: a list of them or a tuple -/
def TakenAt (H : Hp) (p : Addr) (ls : List Nm) : Prop := NamesAt H p ls ∨ TupAt H p ((ls.map S).map V.str)
theorem TakenAt.mv {H H' : Hp} {p d : Addr} {ls : List Nm} (h : TakenAt H p ls) (s : SmX d H H') (n : p ≠ d) : TakenAt H' p ls :=
  h.elim (fun h => .inl (s p _ n h)) fun h => .inr (h.elim (fun h => .inl (s p _ n h)) fun ⟨o, e, h⟩ => .inr ⟨o, e, s p _ n h⟩)
theorem TakenAt.sq {K : PySem.W.Frag} {H : Hp} {p : Addr} {ls : List Nm} (h : TakenAt H p ls) : SqL K H p ((ls.map S).map V.str) ∨ SqT K H p ((ls.map S).map V.str) := h.elim (fun h => .inl (SqL.of h)) fun h => .inr h.sq
/-- the names found so far, the turns that found none -/
structure Fnd (fs tks : List Nm) (t : Nat) (js : List Nat) : Prop where
  nd : fs.Nodup
  ok : ∀ l ∈ fs, NameOk l
  un : ∀ l ∈ fs, l ∉ tks
  jn : js.Nodup
  jl : ∀ j ∈ js, j < t ∧ pre j ∈ (fs ++ tks).map (List.take 2)
  eq : t = fs.length + js.length
theorem Fnd.le {fs tks : List Nm} {t : Nat} {js : List Nat} (h : Fnd fs tks t js) (ht : t ≤ 676) : t ≤ 2 * fs.length + tks.length := by
  have nd : (js.map pre).Nodup := by
    rw [List.Nodup, List.pairwise_map]
    have := h.jn
    rw [List.Nodup] at this
    exact List.Pairwise.imp_of_mem (fun {a b} ha hb ne e => ne (pre_inj (by have := (h.jl a ha).1; omega) (by have := (h.jl b hb).1; omega) e)) this
  have := nodup_sub_len _ ((fs ++ tks).map (List.take 2)) nd fun x hx => by
    obtain ⟨j, hj, rfl⟩ := List.mem_map.mp hx
    exact (h.jl j hj).2
  rw [List.length_map, List.length_map, List.length_append] at this
  have := h.eq
  omega
theorem Fnd.hit {fs tks : List Nm} {t : Nat} {js : List Nat} {l : Nm} (h : Fnd fs tks t js) (ok : NameOk l) (n1 : l ∉ fs) (n2 : l ∉ tks) : Fnd (fs ++ [l]) tks (t + 1) js := by
  refine ⟨nd_snoc' h.nd n1, fun x hx => ?_, fun x hx => ?_, h.jn, fun j hj => ?_, by rw [List.length_append, List.length_singleton]; have := h.eq; omega⟩
  · rcases List.mem_append.mp hx with z | z
    · exact h.ok x z
    · rw [List.mem_singleton.mp z]
      exact ok
  · rcases List.mem_append.mp hx with z | z
    · exact h.un x z
    · rw [List.mem_singleton.mp z]
      exact n2
  · obtain ⟨h1, h2⟩ := h.jl j hj
    refine ⟨by omega, ?_⟩
    rw [List.map_append] at h2 ⊢
    rw [List.map_append]
    rcases List.mem_append.mp h2 with z | z
    · exact List.mem_append_left _ (List.mem_append_left _ z)
    · exact List.mem_append_right _ z
theorem Fnd.miss {fs tks : List Nm} {t : Nat} {js : List Nat} {l : Nm} (h : Fnd fs tks t js) (e : l.take 2 = pre t) (n : l ∈ fs ∨ l ∈ tks) : Fnd fs tks (t + 1) (js ++ [t]) := by
  refine ⟨h.nd, h.ok, h.un, nd_snoc' h.jn fun z => by have := (h.jl t z).1; omega, fun j hj => ?_, by rw [List.length_append, List.length_singleton]; have := h.eq; omega⟩
  rcases List.mem_append.mp hj with z | z
  · obtain ⟨h1, h2⟩ := h.jl j z
    exact ⟨by omega, h2⟩
  · rw [List.mem_singleton.mp z]
    exact ⟨by omega, List.mem_map.mpr ⟨l, List.mem_append.mpr n, e⟩⟩
abbrev s_law_names : Stmt := topS 57
abbrev N_law_names : List Str := ["deck", "many", "taken", "letters", "way", "stem", "at", "found", "turn", "name", "k"]
theorem sc_law_names : FnScope N_law_names ["deck", "many", "taken"] (defScope s_law_names) := ⟨rfl, rfl, rfl, by decide +kernel, rfl, by decide +kernel, by decide +kernel⟩
section
variable {P : Program} {w : World} {K : PySem.W.Frag} {mg : Str → Option Value} {base : Heap}
def spNames : Sp := fun vs H Q _ => ∃ (d tk : Addr) (n many : Nat) (tks : List Nm), vs = [.ref d, .int many, .ref tk] ∧ SeedAt H d n ∧ n < 90000 ∧ 1 ≤ many ∧ many ≤ 30 ∧ tk ≠ d ∧ TakenAt H tk tks ∧ tks.length ≤ 40 ∧
  ∀ (H' : Hp) (p : Addr) (fs : List Nm), fs.length = many → fs.Nodup → (∀ l ∈ fs, NameOk l) → (∀ l ∈ fs, l ∉ tks) → H p = none → p ≠ d → NamesAt H' p fs → SmX d H H' → SeedAt H' d (n + 1100) → Q (.ref p) H'
theorem ok_names {f : Addr} {fd : FuncData} (F : Fun K "_law_names" "_law_names" s_law_names f fd) (T : TxtG mg) (C_law_draw : Cal P w K mg base 1 "_law_draw" spDraw) : FnOk P w K mg base CX0 2 f fd ["deck", "many", "taken"] spNames := by
  refine F.ok sc_law_names (fun vs H Q E h => ?_) (fun cdv A outer s H vs Q E hr h => ?_)
  · obtain ⟨d, tk, n, many, tks, rfl, _⟩ := h
    rfl
  · obtain ⟨d, tk, n, many, tks, rfl, hD, hn, m1, m30, ntd, hT, ltk, q⟩ := h
    refine ⟨_, (pss_cons (ps_set (i := 3) sc_law_names.nd rfl (.inr rfl) pe_str)
      (pss_cons (ps_set (i := 4) sc_law_names.nd rfl (.inl rfl) (pe_c C_law_draw hr (by decide) rfl (pa_cons (pv 0) (pa_cons pe_int pa_nil))))
      (pss_cons (ps_set (i := 5) sc_law_names.nd rfl (.inl rfl) (pe_join pe_str (pe_lc (own := [("k", 10)]) (g := gName 10) (tt := tYes) rfl sc_law_names.nd (pi_range1 (by rfl) T.range (pa_cons pe_int pa_nil)) (blkOk_by (N := N_law_names) (sc := defScope s_law_names) (by decide +kernel)) (fun _ _ _ _ _ => pg_name (i := 10) sc_law_names.nd rfl (Or.inl rfl)) (fun _ _ _ _ _ => pts_nil) (fun _ _ _ _ _ => (pe_ix ix_str (pv 3) (pe_c C_law_draw hr (by decide) rfl (pa_cons (pv 0) (pa_cons pe_int pa_nil))) (fun _ _ => rfl))))))
      (pss_cons (ps_set (i := 6) sc_law_names.nd rfl (.inl rfl) (pe_c C_law_draw hr (by decide) rfl (pa_cons (pv 0) (pa_cons pe_int pa_nil))))
      (pss_cons (ps_set (i := 7) sc_law_names.nd rfl (.inl rfl) (pe_lst pa_nil))
      (pss_cons (ps_set (i := 8) sc_law_names.nd rfl (.inl rfl) pe_int)
      (pss_cut (ps_while PassesOwn.never (pt_cmpR op_lt (pe_callB call_len_seq (by rfl) T.len bt_len (pa_cons (pv 7) pa_nil)) (pv 1) (nomark _))
        (pss_cons (ps_set (i := 9) sc_law_names.nd rfl (.inl rfl) (pe_ix ix_str (pv 3) (pe_c C_law_draw hr (by decide) rfl (pa_cons (pv 0) (pa_cons pe_int pa_nil))) (fun _ _ => rfl)))
        (pss_cut (ps_if (pt_cmpR op_eq (pv 4) pe_int (nomark _))
          (pss_one (ps_set (i := 9) sc_law_names.nd rfl (.inl rfl) (pe_join pe_str (pe_lc (own := [("k", 10)]) (g := gName 10) (tt := tYes) rfl sc_law_names.nd (pi_range1 (by rfl) T.range (pa_cons (pe_op op_add pe_int (pe_c C_law_draw hr (by decide) rfl (pa_cons (pv 0) (pa_cons pe_int pa_nil)))) pa_nil)) (blkOk_by (N := N_law_names) (sc := defScope s_law_names) (by decide +kernel)) (fun _ _ _ _ _ => pg_name (i := 10) sc_law_names.nd rfl (Or.inl rfl)) (fun _ _ _ _ _ => pts_nil) (fun _ _ _ _ _ => (pe_ix ix_str (pv 3) (pe_c C_law_draw hr (by decide) rfl (pa_cons (pv 0) (pa_cons pe_int pa_nil))) (fun _ _ => rfl)))))))
          pss_nil)
        (pss_cut (ps_if (pt_cmpR op_eq (pv 4) pe_int (nomark _))
          (pss_one (ps_set (i := 9) sc_law_names.nd rfl (.inl rfl) (pe_op op_add_str (pe_op op_add_str (pe_slice C8.sl_txt (pv 5) po_none (po_some (pv 6))) (pv 9)) (pe_slice C8.sl_txt (pv 5) (po_some (pe_op op_add (pv 6) pe_int)) po_none))))
          pss_nil)
        (pss_cut (ps_if (PW.pt (pw_or (pt_cmpR op_in_seq (pv 9) (pv 7) rfl) (pw_or1 (pt_cmpR op_in_seq (pv 9) (pv 2) rfl))))
          (pss_one (ps_set (i := 9) sc_law_names.nd rfl (.inl rfl) (pe_op op_add_str (pe_op op_add_str (pe_ix ix_str (pv 3) (pe_op op_mod (pv 8) pe_int) (fun _ _ => rfl)) (pe_ix ix_str (pv 3) (pe_op op_mod (pe_op op_fdiv (pv 8) pe_int) pe_int) (fun _ _ => rfl))) (pe_slice C8.sl_txt (pv 9) po_none (po_some pe_int)))))
          pss_nil)
        (pss_cut (ps_if (PW.pt (pw_and (pt_cmpR op_notIn_seq (pv 9) (pv 7) rfl) (pw_and1 (pt_cmpR op_notIn_seq (pv 9) (pv 2) rfl))))
          (pss_one (ps_expr (pe_bm PySem.F.plainAttrs_list PySem.F.slot_list_append PySem.F.type_list_append mt_append (pv 7) (pa_cons (pv 9) pa_nil))))
          pss_nil)
        (pss_one (ps_set (i := 8) sc_law_names.nd rfl (.inl rfl) (pe_op op_add (pv 8) pe_int)))))))))
      (pss_one (ps_ret (pv 7)))))))))), ?_⟩
    -- way, stem, at
    refine ⟨_, rfl, d, _, 3, rfl, hD, by omega, by decide, by decide, fun H1 way w0 w1 S1 D1 => ?_⟩
    refine ⟨⟨_, rfl⟩, 8, rfl, by decide, by decide, fun D nD => ?_⟩
    have nDd : D ≠ d := D1.nd nD
    have D0 : H D = none := SmX.free S1 nD nDd
    refine lc_range (lo := 0) (n := (8 : Int).toNat) (fun i H' => ∃ cs : List Nat, cs.length = i ∧ (∀ c ∈ cs, 97 ≤ c ∧ c ≤ 122) ∧ H' D = some (.lst ((cs.map fun c => S [c]).map V.str)) ∧ SmX d H H' ∧ SeedAt H' d (n + 1 + i)) ⟨[], rfl, by simp, upd_same, S1.new nD, D1.new nD⟩ (fun i H' hi hP => ?_) (fun H' hP => ?_)
    · obtain ⟨cs, hlc, hc, hD', SM, DD⟩ := hP
      have hi : i < 8 := hi
      refine ⟨rfl, _, rfl, _, rfl, d, _, 26, rfl, DD, by omega, by decide, by decide, fun H4 r4 r40 r41 S4 D4 => ?_⟩
      obtain ⟨v, hv, mv⟩ := atI_in (xs := abc.cps.toList) r40 (by rw [abc_len]; exact r41)
      refine ⟨abc, r4, v, rfl, rfl, by decide, hv, ?_⟩
      refine ⟨_, S4 D _ nDd hD', by rw [List.length_map, List.length_map]; exact sz_lt (by omega), cs ++ [v], by simp [hlc], fun c hc' => ?_, ?_, (SM.trans S4).put D0, D4.put nDd⟩
      · rcases List.mem_append.mp hc' with z | z
        · exact hc c z
        · rw [List.mem_singleton.mp z]
          exact abc_ok v mv
      · rw [upd_same, List.map_append, List.map_append]
        rfl
    obtain ⟨cs, hlc, hc, hD', SM, DD⟩ := hP
    refine ⟨_, D, cs.map (fun c => S [c]), rfl, rfl, .inl (SqL.of hD'), ?_, ?_⟩
    · rw [one_sum']
      have : ((("" : Str)).length) = 0 := rfl
      rw [this, List.length_map]
      omega
    have e : Txt.join ("" : Str) (cs.map fun c => S [c]) = S cs := by
      have := SX.join_S [] (cs.map fun c => [c])
      rw [List.map_map] at this
      rw [join_none, flat_one] at this
      exact this
    rw [e]
    have lcs : cs.length = 8 := hlc
    clear hlc hD' e
    refine ⟨_, rfl, d, _, 8, rfl, DD, by omega, by decide, by decide, fun H2 at' a0 a1 S2 D2 => ?_⟩
    have SM2 := SM.trans S2
    refine ⟨Nat.zero_le _, fun p np => ?_⟩
    have npd : p ≠ d := D2.nd np
    have np0 : H p = none := SmX.free SM2 np npd
    have SM3 : SmX d H (upd H2 p (.lst [])) := SM2.new np
    have D3 : SeedAt (upd H2 p (.lst [])) d (n + 10 + 10 * 0) := (D2.new np).mono (by show n + 1 + 8 + 1 ≤ _; omega)
    have hN3 : NamesAt (upd H2 p (.lst [])) p [] := upd_same
    generalize upd H2 p (.lst []) = H3 at SM3 D3 hN3
    refine ⟨fun σ' H' => ∃ (fs : List Nm) (t : Nat) (x8 x9 : Option V), σ' = [some (.ref d), some (.int many), some (.ref tk), some (.str abc), some (.int way), some (.str (S cs)), some (.int at'), some (.ref p), x8, x9, none] ∧ (∃ js, Fnd fs tks t js) ∧ t ≤ 100 ∧ fs.length = many ∧ NamesAt H' p fs ∧ SmX d H H' ∧ SeedAt H' d (n + 10 + 10 * t), ?_, fun σ' H' hM => ?_⟩
    · refine ⟨fun m σ' H' => ∃ (fs : List Nm) (t : Nat) (js : List Nat) (x9 : Option V), σ' = [some (.ref d), some (.int many), some (.ref tk), some (.str abc), some (.int way), some (.str (S cs)), some (.int at'), some (.ref p), some (.int t), x9, none] ∧ Fnd fs tks t js ∧ t + m = 500 ∧ fs.length ≤ many ∧ NamesAt H' p fs ∧ SmX d H H' ∧ SeedAt H' d (n + 10 + 10 * t), ⟨500, [], 0, [], none, rfl, ⟨by simp, by simp, by simp, by simp, by simp, rfl⟩, rfl, Nat.zero_le _, hN3, SM3, D3⟩, ?_⟩
      rintro m' σ' H' ⟨fs, t, js, x9, rfl, hF, em, lf, hN, SM', D'⟩
      have tb := hF.le (by omega)
      refine ⟨_, rfl, p, _, rfl, .inl (SqL.of hN), _, rfl, _, _, rfl, rfl, _, rfl, ?_⟩
      rw [List.length_map, List.length_map]
      refine ite2 (fun e => ?_) (fun e => ⟨fs, t, _, _, rfl, ⟨js, hF⟩, by omega, by have e : ¬ ((fs.length : Int) < many) := fun z => e (decide_eq_true z); omega, hN, SM', D'⟩)
      have e := of_decide_eq_true e
      have lf2 : fs.length < many := by omega
      refine ⟨fun σ'' H'' => ∃ (fs' : List Nm) (js' : List Nat) (x9 : Option V), σ'' = [some (.ref d), some (.int many), some (.ref tk), some (.str abc), some (.int way), some (.str (S cs)), some (.int at'), some (.ref p), some (.int ((t : Int) + 1)), x9, none] ∧ Fnd fs' tks (t + 1) js' ∧ fs'.length ≤ many ∧ NamesAt H'' p fs' ∧ SmX d H H'' ∧ SeedAt H'' d (n + 10 + 10 * (t + 1)), ?_, ?_⟩
      · rintro σ'' H'' ⟨fs', js', x9, rfl, h1, h2, h3, h4, h5⟩
        exact ⟨m' - 1, by omega, fs', t + 1, js', x9, rfl, h1, by omega, h2, h3, h4, h5⟩
      -- name
      refine ⟨_, rfl, _, rfl, d, _, 26, rfl, D', by omega, by decide, by decide, fun H4 r4 r40 r41 S4 D4 => ?_⟩
      obtain ⟨v, hv, mv⟩ := atI_in (xs := abc.cps.toList) r40 (by rw [abc_len]; exact r41)
      refine ⟨abc, r4, v, rfl, rfl, by decide, hv, ?_⟩
      have okv := abc_ok v mv
      have SM4 := SM'.trans S4
      have hN4 : NamesAt H4 p fs := S4 p _ npd hN
      refine ⟨fun σ'' H'' => ∃ l : Nm, σ'' = [some (.ref d), some (.int many), some (.ref tk), some (.str abc), some (.int way), some (.str (S cs)), some (.int at'), some (.ref p), some (.int t), some (.str (S l)), none] ∧ NameOk l ∧ (way = 2 → l.length = 1) ∧ NamesAt H'' p fs ∧ SmX d H H'' ∧ SeedAt H'' d (n + 10 + 10 * t + 10), ?_, fun σ'' H'' hM => ?_⟩
      · refine ⟨_, rfl, rfl, _, rfl, ite2 (fun e1 => ?_) (fun e1 => ⟨[v], rfl, ⟨by simp, by simp, fun c hc => by rw [List.mem_singleton.mp hc]; exact okv⟩, fun _ => rfl, hN4, SM4, D4.mono (by omega)⟩)⟩
        have ew : way = 1 := by simpa using e1
        refine ⟨⟨_, rfl⟩, _, rfl, d, _, 8, rfl, D4, by omega, by decide, by decide, fun H5 r5 r50 r51 S5 D5 => ⟨_, _, rfl, rfl, 1 + r5, rfl, by omega, by omega, fun D nD => ?_⟩⟩
        have SM5 := SM4.trans S5
        have nDd : D ≠ d := D5.nd nD
        have D0 : H D = none := SmX.free SM5 nD nDd
        have hN5 : NamesAt H5 p fs := S5 p _ npd hN4
        have nDp : p ≠ D := ne_of_none hN5 nD
        refine lc_range (lo := 0) (n := (1 + r5).toNat) (fun i H' => ∃ cs : List Nat, cs.length = i ∧ (∀ c ∈ cs, 97 ≤ c ∧ c ≤ 122) ∧ H' D = some (.lst ((cs.map fun c => S [c]).map V.str)) ∧ NamesAt H' p fs ∧ SmX d H H' ∧ SeedAt H' d (n + 10 + 10 * t + 2 + i)) ⟨[], rfl, by simp, upd_same, by unfold NamesAt; rw [upd_ne nDp]; exact hN5, SM5.new nD, (D5.new nD).mono (by omega)⟩ (fun i H' hi hP => ?_) (fun H' hP => ?_)
        · obtain ⟨cs, hlc, hc, hD', hN', SM, DD⟩ := hP
          refine ⟨rfl, _, rfl, _, rfl, d, _, 26, rfl, DD, by omega, by decide, by decide, fun H4 r4 r40 r41 S4 D4 => ?_⟩
          obtain ⟨v, hv, mv⟩ := atI_in (xs := abc.cps.toList) r40 (by rw [abc_len]; exact r41)
          refine ⟨abc, r4, v, rfl, rfl, by decide, hv, ?_⟩
          refine ⟨_, S4 D _ nDd hD', by rw [List.length_map, List.length_map]; exact sz_lt (by omega), cs ++ [v], by simp [hlc], fun c hc' => ?_, ?_, ?_, (SM.trans S4).put D0, D4.put nDd⟩
          · rcases List.mem_append.mp hc' with z | z
            · exact hc c z
            · rw [List.mem_singleton.mp z]
              exact abc_ok v mv
          · rw [upd_same, List.map_append, List.map_append]
            rfl
          · unfold NamesAt
            rw [upd_ne nDp]
            exact S4 p _ npd hN'
        · obtain ⟨cs, hlc, hc, hD', hN', SM, DD⟩ := hP
          refine ⟨_, D, cs.map (fun c => S [c]), rfl, rfl, .inl (SqL.of hD'), ?_, ?_⟩
          · rw [one_sum']
            have : ((("" : Str)).length) = 0 := rfl
            rw [this, List.length_map]
            omega
          · have e : Txt.join ("" : Str) (cs.map fun c => S [c]) = S cs := by
              have := SX.join_S [] (cs.map fun c => [c])
              rw [List.map_map] at this
              rw [join_none, flat_one] at this
              exact this
            rw [e]
            exact ⟨cs, rfl, ⟨by omega, by omega, hc⟩, fun z => by omega, hN', SM, DD.mono (by omega)⟩
      obtain ⟨l, rfl, lok, l2, hN5, SM5, D5⟩ := hM
      -- amid the stem
      refine ⟨fun σ3 H3 => ∃ l : Nm, σ3 = [some (.ref d), some (.int many), some (.ref tk), some (.str abc), some (.int way), some (.str (S cs)), some (.int at'), some (.ref p), some (.int t), some (.str (S l)), none] ∧ NameOk l ∧ H3 = H'', ?_, fun σ3 H3 hM => ?_⟩
      · refine ⟨_, rfl, rfl, _, rfl, ite2 (fun e1 => ?_) (fun e1 => ⟨l, rfl, lok, rfl⟩)⟩
        have ew : way = 2 := by simpa using e1
        have l21 := l2 ew
        refine ⟨_, rfl, _, rfl, at', rfl, S cs, rfl, by rw [SX.S_len]; exact sz_le (by omega), ?_⟩
        refine ⟨_, rfl, S (cs.take at'.toNat), S l, congrArg V.str (SX.slice_to a0), rfl, by rw [SX.S_len, SX.S_len, List.length_take]; exact sz_le (by omega), ?_⟩
        refine ⟨_, rfl, _, rfl, at', 1, rfl, rfl, at' + 1, rfl, S cs, rfl, by rw [SX.S_len]; exact sz_le (by omega), S (cs.take at'.toNat ++ l), S (cs.drop (at' + 1).toNat), congrArg V.str (SX.S_cat _ _), congrArg V.str (SX.slice_from (by omega)), by rw [SX.S_len, SX.S_len, List.length_append, List.length_take, List.length_drop]; exact sz_le (by omega), ?_⟩
        refine ⟨cs.take at'.toNat ++ l ++ cs.drop (at' + 1).toNat, by rw [SX.S_cat]; rfl, ⟨?_, ?_, fun c hc' => ?_⟩, rfl⟩
        · simp
          omega
        · simp
          omega
        · rcases List.mem_append.mp hc' with z | z
          · rcases List.mem_append.mp z with z | z
            · exact hc c (List.mem_of_mem_take z)
            · exact lok.2.2 c z
          · exact hc c (List.mem_of_mem_drop z)
      obtain ⟨l, rfl, lok, rfl⟩ := hM
      have hT5 : TakenAt H3 tk tks := hT.mv SM5 ntd
      -- made otherwise
      refine ⟨fun σ4 H4 => ∃ l : Nm, σ4 = [some (.ref d), some (.int many), some (.ref tk), some (.str abc), some (.int way), some (.str (S cs)), some (.int at'), some (.ref p), some (.int t), some (.str (S l)), none] ∧ NameOk l ∧ ((l ∉ fs ∧ l ∉ tks) ∨ l.take 2 = pre t) ∧ H4 = H3, ?_, fun σ4 H4 hM => ?_⟩
      · have ok2 : NameOk (pre t ++ l.take 6) := by
          refine ⟨by simp [pre], ?_, fun c hc' => ?_⟩
          · rw [List.length_append, List.length_take]
            show 2 + _ ≤ 8
            omega
          · rcases List.mem_append.mp hc' with z | z
            · unfold pre at z
              simp at z
              omega
            · exact lok.2.2 c (List.mem_of_mem_take z)
        have et : (t : Int) / 26 % 26 = (((t / 26 % 26 : Nat)) : Int) := by omega
        have em' : (t : Int) % 26 = (((t % 26 : Nat)) : Int) := by omega
        have b1 : atI abc.cps.toList ((t : Int) / 26 % 26) = some (97 + t / 26 % 26) := by
          rw [et]
          exact abc_at ⟨t / 26 % 26, by omega⟩
        have b2 : atI abc.cps.toList ((t : Int) % 26) = some (97 + t % 26) := by
          rw [em']
          exact abc_at ⟨t % 26, by omega⟩
        refine ⟨_, rfl, _, rfl, p, _, rfl, .inl (SqL.of hN5), rfl, flat_strs fs, _, rfl, ?_⟩
        rw [inV_strs]
        by_cases c1 : l ∈ fs
        · rw [decide_eq_true c1]
          refine iteT (iteT ?_)
          refine ⟨_, rfl, _, rfl, _, _, rfl, rfl, (by show (0 : Int) < _; decide), abc, (t : Int) % 26, _, rfl, rfl, by decide, b2, ?_⟩
          refine ⟨_, rfl, _, rfl, _, _, rfl, rfl, ⟨by decide, by decide⟩, _, _, rfl, rfl, (by show (0 : Int) < _; decide), abc, (t : Int) / 26 % 26, _, rfl, rfl, by decide, b1, ?_⟩
          refine ⟨S [97 + t % 26], S [97 + t / 26 % 26], rfl, rfl, by rw [SX.S_len, SX.S_len]; exact sz_le (by simp), ?_⟩
          refine ⟨_, rfl, 6, rfl, S l, rfl, by rw [SX.S_len]; exact sz_le (by have := lok.2.1; omega), ?_⟩
          refine ⟨S (pre t), S (l.take 6), congrArg V.str (SX.S_cat _ _), congrArg V.str (SX.slice_to (by decide)), by rw [SX.S_len, SX.S_len, List.length_take]; exact sz_le (by simp [pre]; omega), ?_⟩
          exact ⟨pre t ++ l.take 6, by rw [SX.S_cat]; rfl, ok2, .inr (by simp [pre]), rfl⟩
        · rw [decide_eq_false c1]
          refine iteF ?_
          refine ⟨_, rfl, _, rfl, tk, _, rfl, hT5.sq, rfl, flat_strs tks, _, rfl, ?_⟩
          rw [inV_strs]
          by_cases c2 : l ∈ tks
          · rw [decide_eq_true c2]
            refine iteT ?_
            refine ⟨_, rfl, _, rfl, _, _, rfl, rfl, (by show (0 : Int) < _; decide), abc, (t : Int) % 26, _, rfl, rfl, by decide, b2, ?_⟩
            refine ⟨_, rfl, _, rfl, _, _, rfl, rfl, ⟨by decide, by decide⟩, _, _, rfl, rfl, (by show (0 : Int) < _; decide), abc, (t : Int) / 26 % 26, _, rfl, rfl, by decide, b1, ?_⟩
            refine ⟨S [97 + t % 26], S [97 + t / 26 % 26], rfl, rfl, by rw [SX.S_len, SX.S_len]; exact sz_le (by simp), ?_⟩
            refine ⟨_, rfl, 6, rfl, S l, rfl, by rw [SX.S_len]; exact sz_le (by have := lok.2.1; omega), ?_⟩
            refine ⟨S (pre t), S (l.take 6), congrArg V.str (SX.S_cat _ _), congrArg V.str (SX.slice_to (by decide)), by rw [SX.S_len, SX.S_len, List.length_take]; exact sz_le (by simp [pre]; omega), ?_⟩
            exact ⟨pre t ++ l.take 6, by rw [SX.S_cat]; rfl, ok2, .inr (by simp [pre]), rfl⟩
          · rw [decide_eq_false c2]
            exact iteF ⟨l, rfl, lok, .inl ⟨c1, c2⟩, rfl⟩
      obtain ⟨l, rfl, lok, lc, rfl⟩ := hM
      -- put behind
      refine ⟨fun σ5 H5 => ∃ (fs' : List Nm) (js' : List Nat), σ5 = [some (.ref d), some (.int many), some (.ref tk), some (.str abc), some (.int way), some (.str (S cs)), some (.int at'), some (.ref p), some (.int t), some (.str (S l)), none] ∧ Fnd fs' tks (t + 1) js' ∧ fs'.length ≤ many ∧ NamesAt H5 p fs' ∧ SmX d H H5 ∧ SeedAt H5 d (n + 10 + 10 * (t + 1)), ?_, fun σ5 H5 hM => ?_⟩
      · refine ⟨_, rfl, _, rfl, p, _, rfl, .inl (SqL.of hN5), rfl, flat_strs fs, _, rfl, ?_⟩
        rw [inV_strs]
        by_cases c1 : l ∈ fs
        · rw [decide_eq_true c1]
          refine iteF (iteF ?_)
          have lc : l.take 2 = pre t := lc.resolve_left fun z => z.1 c1
          exact ⟨fs, js ++ [t], rfl, hF.miss lc (.inl c1), lf, hN5, SM5, D5.mono (by omega)⟩
        · rw [decide_eq_false c1]
          refine iteT ?_
          refine ⟨_, rfl, _, rfl, tk, _, rfl, hT5.sq, rfl, flat_strs tks, _, rfl, ?_⟩
          rw [inV_strs]
          by_cases c2 : l ∈ tks
          · rw [decide_eq_true c2]
            refine iteF ?_
            have lc : l.take 2 = pre t := lc.resolve_left fun z => z.2 c2
            exact ⟨fs, js ++ [t], rfl, hF.miss lc (.inr c2), lf, hN5, SM5, D5.mono (by omega)⟩
          · rw [decide_eq_false c2]
            refine iteT ?_
            refine ⟨_, rfl, .inl ⟨rfl, _, SqL.of hN5⟩, _, rfl, p, _, _, rfl, rfl, hN5, by rw [List.length_map, List.length_map]; exact sz_lt (by omega), ?_⟩
            refine ⟨fs ++ [l], js, rfl, hF.hit lok c1 c2, by rw [List.length_append, List.length_singleton]; omega, ?_, SM5.put np0, (D5.put npd).mono (by omega)⟩
            unfold NamesAt
            rw [upd_same, List.map_append, List.map_append]
            rfl
      obtain ⟨fs', js', rfl, h1, h2, h3, h4, h5⟩ := hM
      exact ⟨_, rfl, _, _, rfl, rfl, fs', js', _, rfl, h1, h2, h3, h4, h5⟩
    · obtain ⟨fs, t, x8, x9, rfl, ⟨js, hF⟩, t1, lf, hN, SM', D'⟩ := hM
      exact ⟨_, rfl, q _ p fs lf hF.nd hF.ok hF.un np0 npd hN SM' (D'.mono (by omega))⟩
end
end Far

namespace Far
open PySem PySem.Spec PyProof.Rows L2
open C8 (pss_cut tCut)
open SX (S)
theorem SeedAt.tk {H H' : Hp} {d : Addr} {n : Nat} (h : SeedAt H d n) (s : SmX d H H') : TK H H' := by
  obtain ⟨xs, e⟩ := h.lst
  exact s.tk e
theorem seq_ix {r : Int} {n : Nat} (h0 : 0 ≤ r) (h1 : r < n) : seqIndex? r n = some r.toNat := by
  refine (ixN_seq (j := r.toNat) ?_).1
  unfold ixN
  rw [if_pos h0, if_pos h1]
/-- within the making of a tree: the names at p, the ties so far at t -/
structure Tr (H H' : Hp) (d p t : Addr) (n : Nat) (ls : List Nm) (tvs : List V) (ts : List Tie) : Prop where
  nm : NamesAt H' p ls
  tt : H' t = some (.lst tvs)
  al : DtAll H' tvs (ts.map tieD)
  sm : SmX d H H'
  dk : SeedAt H' d n
theorem Tr.new {H H' : Hp} {d p t q : Addr} {n : Nat} {ls : List Nm} {tvs : List V} {ts : List Tie} {o : HO} (x : Tr H H' d p t n ls tvs ts) (nq : H' q = none) : Tr H (upd H' q o) d p t n ls tvs ts :=
  ⟨by unfold NamesAt; rw [upd_ne (ne_of_none x.nm nq)]; exact x.nm, by rw [upd_ne (ne_of_none x.tt nq)]; exact x.tt, DtAll.keep (TK.new nq) x.al, x.sm.new nq, x.dk.new nq⟩
theorem Tr.step {H H' H'' : Hp} {d p t : Addr} {n m : Nat} {ls : List Nm} {tvs : List V} {ts : List Tie} (x : Tr H H' d p t n ls tvs ts) (npd : p ≠ d) (ntd : t ≠ d) (s : SmX d H' H'') (D : SeedAt H'' d m) : Tr H H'' d p t m ls tvs ts :=
  ⟨s p _ npd x.nm, s t _ ntd x.tt, DtAll.keep (x.dk.tk s) x.al, x.sm.trans s, D⟩
theorem Tr.put {H H' : Hp} {d p t q : Addr} {n : Nat} {ls : List Nm} {tvs xs : List V} {ts : List Tie} {o : HO} (x : Tr H H' d p t n ls tvs ts) (np : q ≠ p) (nt : q ≠ t) (nd : q ≠ d) (n0 : H q = none) (hq : H' q = some (.lst xs)) : Tr H (upd H' q o) d p t n ls tvs ts :=
  ⟨by unfold NamesAt; rw [upd_ne np.symm]; exact x.nm, by rw [upd_ne nt.symm]; exact x.tt, DtAll.keep (TK.mut hq) x.al, x.sm.put n0, x.dk.put nd⟩
theorem Tr.take {H H' : Hp} {d p t : Addr} {n k : Nat} {ls : List Nm} {tvs : List V} {ts : List Tie} (x : Tr H H' d p t n ls tvs ts) (np : p ≠ t) (nd : t ≠ d) (n0 : H t = none) : Tr H (upd H' t (.lst (tvs.eraseIdx k))) d p t n ls (tvs.eraseIdx k) (ts.eraseIdx k) :=
  ⟨by unfold NamesAt; rw [upd_ne np]; exact x.nm, upd_same, by rw [← map_erase]; exact DtAll.del k (DtAll.keep (TK.mut x.tt) x.al), x.sm.put n0, x.dk.put nd⟩
theorem Tr.mono {H H' : Hp} {d p t : Addr} {n m : Nat} {ls : List Nm} {tvs : List V} {ts : List Tie} (x : Tr H H' d p t n ls tvs ts) (h : n ≤ m) : Tr H H' d p t m ls tvs ts := ⟨x.nm, x.tt, x.al, x.sm, x.dk.mono h⟩
abbrev s_law_tree : Stmt := topS 58
abbrev N_law_tree : List Str := ["deck", "most", "taken", "many", "shape", "far", "names", "ties", "k", "to", "pair", "left", "places"]
theorem sc_law_tree : FnScope N_law_tree ["deck", "most", "taken"] (defScope s_law_tree) := ⟨rfl, rfl, rfl, by decide +kernel, rfl, by decide +kernel, by decide +kernel⟩
section
variable {P : Program} {w : World} {K : PySem.W.Frag} {mg : Str → Option Value} {base : Heap}
/-- the tree's places stand as a tuple that is known through and through -/
def PlZ (H : Hp) (v : V) (pl : List Nm) : Prop := ∃ (t a b : Addr) (o : Obj), v = .ref t ∧ H t = some (.tup [.ref a, .ref b]) ∧ o.dict = none ∧ H a = some (.frz o (.tup ((pl.map S).map V.str)))
theorem PlZ.same {H H' : Hp} {v : V} {pl : List Nm} (h : PlZ H v pl) (s : Same H H') : PlZ H' v pl := by
  obtain ⟨t, a, b, o, e, h1, h2, h3⟩ := h
  exact ⟨t, a, b, o, e, s _ _ h1, h2, s _ _ h3⟩
theorem PlZ.keep {H H' : Hp} {v : V} {pl : List Nm} (h : PlZ H v pl) (s : TK H H') : PlZ H' v pl := by
  obtain ⟨t, a, b, o, e, h1, h2, h3⟩ := h
  exact ⟨t, a, b, o, e, s.tup _ _ h1, h2, s.frz _ _ _ h3⟩
def spTree : Sp := fun vs H Q _ => ∃ (d tk : Addr) (n most : Nat) (tks : List Nm), vs = [.ref d, .int most, .ref tk] ∧ SeedAt H d n ∧ n < 80000 ∧ 1 ≤ most ∧ most ≤ 30 ∧ tk ≠ d ∧ TakenAt H tk tks ∧ tks.length ≤ 40 ∧
  ∀ (H' : Hp) (t : Addr) (pl : List Nm) (ts : List Tie), IsTree pl ts → (∀ l ∈ pl, NameOk l) → (∀ l ∈ pl, l ∉ tks) → pl.length ≤ most → Dt H' (.ref t) (treeD pl ts) → PlZ H' (.ref t) pl → SmX d H H' → SeedAt H' d (n + 1400) → Q (.ref t) H'
theorem ok_tree {f : Addr} {fd : FuncData} (F : Fun K "_law_tree" "_law_tree" s_law_tree f fd) (T : TxtG mg) (C_law_draw : Cal P w K mg base 1 "_law_draw" spDraw) (C_law_names : Cal P w K mg base 2 "_law_names" spNames) : FnOk P w K mg base CX0 3 f fd ["deck", "most", "taken"] spTree := by
  refine F.ok sc_law_tree (fun vs H Q E h => ?_) (fun cdv A outer s H vs Q E hr h => ?_)
  · obtain ⟨d, tk, n, most, tks, rfl, _⟩ := h
    rfl
  · obtain ⟨d, tk, n, most, tks, rfl, hD, hn, hm1, hm, ntd', hT, ltk, q⟩ := h
    have e6 : (10 : Int) ^ (6 : Int).toNat = 1000000 := by decide
    refine ⟨_, (pss_cons (ps_set (i := 3) sc_law_tree.nd rfl (.inl rfl) (pe_ix ix_list (pe_lst (pa_cons (pe_op op_add pe_int (pe_c C_law_draw hr (by decide) rfl (pa_cons (pv 0) (pa_cons (pv 1) pa_nil)))) (pa_cons (pv 1) (pa_cons (pe_op op_add pe_int (pe_c C_law_draw hr (by decide) rfl (pa_cons (pv 0) (pa_cons (pe_callB (call_min2 rfl) (by rfl) T.min bt_min (pa_cons (pv 1) (pa_cons pe_int pa_nil))) pa_nil)))) pa_nil)))) (pe_c C_law_draw hr (by decide) rfl (pa_cons (pv 0) (pa_cons pe_int pa_nil))) (fun _ _ => rfl)))
      (pss_cons (ps_set (i := 4) sc_law_tree.nd rfl (.inl rfl) (pe_c C_law_draw hr (by decide) rfl (pa_cons (pv 0) (pa_cons pe_int pa_nil))))
      (pss_cons (ps_set (i := 5) sc_law_tree.nd rfl (.inl rfl) (pe_ix ix_list (pe_lst (pa_cons pe_int (pa_cons pe_int (pa_cons pe_int (pa_cons (pe_op op_pow pe_int pe_int) pa_nil))))) (pe_c C_law_draw hr (by decide) rfl (pa_cons (pv 0) (pa_cons pe_int pa_nil))) (fun _ _ => rfl)))
      (pss_cons (ps_set (i := 6) sc_law_tree.nd rfl (.inl rfl) (pe_c C_law_names hr (by decide) rfl (pa_cons (pv 0) (pa_cons (pv 3) (pa_cons (pv 2) pa_nil)))))
      (pss_cons (ps_set (i := 7) sc_law_tree.nd rfl (.inr rfl) (pe_lst pa_nil))
      (pss_cut (ps_for PassesOwn.never rfl (pi_range2 (by rfl) T.range (pa_cons pe_int (pa_cons (pv 3) pa_nil))) (pg_name (i := 8) sc_law_tree.nd rfl (.inl rfl))
        (pss_cons (ps_set (i := 9) sc_law_tree.nd rfl (.inl rfl) (pe_ix ix_list (pe_lst (pa_cons (pe_c C_law_draw hr (by decide) rfl (pa_cons (pv 0) (pa_cons (pv 8) pa_nil))) (pa_cons (pe_op op_sub (pv 8) pe_int) (pa_cons pe_int (pa_cons (pe_callB (call_min2 rfl) (by rfl) T.min bt_min (pa_cons (pe_op op_sub (pv 8) pe_int) (pa_cons (pe_op op_fdiv (pv 8) pe_int) pa_nil))) (pa_cons (pe_callB (call_max2 rfl) (by rfl) T.max bt_max (pa_cons pe_int (pa_cons (pe_op op_sub (pv 8) pe_int) pa_nil))) pa_nil)))))) (pv 4) (fun _ _ => rfl)))
        (pss_cons (ps_set (i := 10) sc_law_tree.nd rfl (.inl rfl) (pe_lst (pa_cons (pe_ix ix_list (pv 6) (pv 9) (fun _ _ => rfl)) (pa_cons (pe_ix ix_list (pv 6) (pv 8) (fun _ _ => rfl)) pa_nil))))
        (pss_cut (ps_if (pt_cmpR op_eq (pe_c C_law_draw hr (by decide) rfl (pa_cons (pv 0) (pa_cons pe_int pa_nil))) pe_int (nomark _))
          (pss_one (ps_set (i := 10) sc_law_tree.nd rfl (.inl rfl) (pe_revL (pv 10))))
          pss_nil)
        (pss_one (ps_expr (pe_bm PySem.F.plainAttrs_list PySem.F.slot_list_append PySem.F.type_list_append mt_append (pv 7) (pa_cons (pe_tup (pa_cons (pe_ix ix_list (pv 10) pe_int (fun _ _ => rfl)) (pa_cons (pe_ix ix_list (pv 10) pe_int (fun _ _ => rfl)) (pa_cons (pe_op op_add pe_int (pe_c C_law_draw hr (by decide) rfl (pa_cons (pv 0) (pa_cons (pv 5) pa_nil)))) pa_nil)))) pa_nil))))))))
      (pss_cons (ps_set (i := 11) sc_law_tree.nd rfl (.inr rfl) (pe_callTy call_list_of (by rfl) T.list bt_list (pa_cons (pv 6) pa_nil)))
      (pss_cons (ps_set (i := 12) sc_law_tree.nd rfl (.inl rfl) (pe_tupleZ (by rfl) T.tuple (pe_lc (own := [("k", 8)]) (g := gName 8) (tt := tYes) rfl sc_law_tree.nd (pi_range1 (by rfl) T.range (pa_cons (pv 3) pa_nil)) (blkOk_by (N := N_law_tree) (sc := defScope s_law_tree) (by decide +kernel)) (fun _ _ _ _ _ => pg_name (i := 8) sc_law_tree.nd rfl (Or.inl rfl)) (fun _ _ _ _ _ => pts_nil) (fun _ _ _ _ _ => (show PE _ _ (tBM K "list" rPopAt _ _) from pe_bm PySem.F.plainAttrs_list PySem.F.slot_list_pop PySem.F.type_list_pop mt_popAt (pv 11) (pa_cons (pe_c C_law_draw hr (by decide) rfl (pa_cons (pv 0) (pa_cons (pe_callB (lenK (K := K)) (by rfl) T.len bt_len (pa_cons (pv 11) pa_nil)) pa_nil))) pa_nil))))))
      (pss_one (ps_ret (pe_tup (pa_cons (pv 12) (pa_cons (pe_tupleOf (by rfl) T.tuple (pe_lc (own := [("k", 8)]) (g := gName 8) (tt := tYes) rfl sc_law_tree.nd (pi_range1 (by rfl) T.range (pa_cons (pe_op op_sub (pv 3) pe_int) pa_nil)) (blkOk_by (N := N_law_tree) (sc := defScope s_law_tree) (by decide +kernel)) (fun _ _ _ _ _ => pg_name (i := 8) sc_law_tree.nd rfl (Or.inl rfl)) (fun _ _ _ _ _ => pts_nil) (fun _ _ _ _ _ => (show PE _ _ (tBM K "list" rPopAt _ _) from pe_bm PySem.F.plainAttrs_list PySem.F.slot_list_pop PySem.F.type_list_pop mt_popAt (pv 7) (pa_cons (pe_c C_law_draw hr (by decide) rfl (pa_cons (pv 0) (pa_cons (pe_callB (lenK (K := K)) (by rfl) T.len bt_len (pa_cons (pv 7) pa_nil)) pa_nil))) pa_nil))))) pa_nil))))))))))))), ?_⟩
    -- many
    refine ⟨_, rfl, _, rfl, d, _, most, rfl, hD, by omega, by omega, by omega, fun H1 r1 r10 r11 S1 D1 => ⟨_, _, rfl, rfl, ?_⟩⟩
    refine ⟨_, rfl, _, rfl, _, rfl, _, _, rfl, d, _, _, rfl, D1, by omega, by split <;> omega, by split <;> omega, fun H2 r2 r20 r21 S2 D2 => ⟨_, _, rfl, rfl, ?_⟩⟩
    have r22 : r2 < most := by split at r21 <;> omega
    refine ⟨(by show 3 ≤ sizeLine; decide), fun p1 np1 => ?_⟩
    refine ⟨_, rfl, d, _, 3, rfl, D2.new np1, by omega, by decide, by decide, fun H3 r3 r30 r31 S3 D3 => ?_⟩
    have hp1 := S3 p1 _ (D2.nd np1) upd_same
    have SM3 : SmX d H H3 := ((S1.trans S2).new np1).trans S3
    obtain ⟨v, hv, mv⟩ := atI_in (xs := [V.int (1 + r1), .int most, .int (1 + r2)]) r30 (by simpa using r31)
    have hs : ∃ m : Nat, v = .int m ∧ 1 ≤ m ∧ m ≤ most := by
      simp only [List.mem_cons, List.not_mem_nil, or_false] at mv
      rcases mv with e | e | e
      · exact ⟨(1 + r1).toNat, by rw [e]; congr 1 <;> omega, by omega, by omega⟩
      · exact ⟨most, e, by omega, by omega⟩
      · exact ⟨(1 + r2).toNat, by rw [e]; congr 1 <;> omega, by omega, by omega⟩
    obtain ⟨many, rfl, m1, mm⟩ := hs
    refine ⟨p1, _, r3, _, rfl, rfl, SqL.of hp1, hv, ?_⟩
    -- shape, far
    refine ⟨_, rfl, d, _, 5, rfl, D3, by omega, by decide, by decide, fun H4 shape w0 w1 S4 D4 => ?_⟩
    refine ⟨_, _, rfl, rfl, ⟨by decide, by decide, by decide⟩, (by show 4 ≤ sizeLine; decide), fun p2 np2 => ?_⟩
    refine ⟨_, rfl, d, _, 4, rfl, D4.new np2, by omega, by decide, by decide, fun H5 r5 r50 r51 S5 D5 => ?_⟩
    have hp2 := S5 p2 _ (D4.nd np2) upd_same
    have SM5 : SmX d H H5 := ((SM3.trans S4).new np2).trans S5
    obtain ⟨v, hv, mv⟩ := atI_in (xs := [V.int 1, .int 2, .int 9, .int (10 ^ (6 : Int).toNat)]) r50 (by simpa using r51)
    have hs : ∃ m : Int, v = .int m ∧ 1 ≤ m ∧ m ≤ 1000000 := by
      rw [e6] at mv
      simp only [List.mem_cons, List.not_mem_nil, or_false] at mv
      rcases mv with e | e | e | e
      · exact ⟨1, e, by omega, by omega⟩
      · exact ⟨2, e, by omega, by omega⟩
      · exact ⟨9, e, by omega, by omega⟩
      · exact ⟨1000000, e, by omega, by omega⟩
    obtain ⟨far, rfl, f1, f2⟩ := hs
    refine ⟨p2, _, r5, _, rfl, rfl, SqL.of hp2, hv, ?_⟩
    have hT5 := hT.mv SM5 ntd'
    -- names
    refine ⟨_, rfl, _, rfl, _, rfl, d, tk, _, many, tks, rfl, D5, by omega, m1, by omega, ntd', hT5, ltk, fun H6 p ls hl nd ok un np5 npd hN6 S6 D6 => ?_⟩
    have SM6 : SmX d H H6 := SM5.trans S6
    have np0 : H p = none := SM5.free np5 npd
    -- ties
    refine ⟨Nat.zero_le _, fun t nt => ?_⟩
    have ntd : t ≠ d := D6.nd nt
    have ntp : p ≠ t := ne_of_none hN6 nt
    have nt0 : H t = none := SM6.free nt ntd
    refine ⟨fun σ' H' => ∃ (x8 x9 x10 : Option V) (tvs : List V) (ts : List Tie), σ' = [some (.ref d), some (.int most), some (.ref tk), some (.int many), some (.int shape), some (.int far), some (.ref p), some (.ref t), x8, x9, x10, none, none] ∧ Grown ls ts ∧ Tr H H' d p t (n + 1250) ls tvs ts, ?_, fun σ' H' hM => ?_⟩
    · refine ⟨_, rfl, 1, many, rfl, ⟨by decide, by decide, by omega, by omega⟩, ?_⟩
      refine for_range (lo := 1) (n := ((many : Int) - 1).toNat) (fun i σ' H' => ∃ (x8 x9 x10 : Option V) (tvs : List V) (ts : List Tie), σ' = [some (.ref d), some (.int most), some (.ref tk), some (.int many), some (.int shape), some (.int far), some (.ref p), some (.ref t), x8, x9, x10, none, none] ∧ Grown (ls.take (i + 1)) ts ∧ Tr H H' d p t (n + 1110 + 3 * i) ls tvs ts) ⟨none, none, none, [], [], rfl, ?_, ?_, upd_same, .nil, SM6.new nt, (D6.new nt).mono (by omega)⟩ (fun i σ' H' hi hP => ?_) (fun σ' H' hP => ?_)
      · cases ls with
        | nil => simp at hl; omega
        | cons a r => exact Grown.one a
      · unfold NamesAt
        rw [upd_ne ntp]
        exact hN6
      · obtain ⟨x8, x9, x10, tvs, ts, rfl, hG, X0⟩ := hP
        have hi' : i + 1 < many := by omega
        -- to
        refine ⟨_, rfl, _, rfl, d, _, _, rfl, X0.dk, by omega, by omega, by omega, fun H7 a a0 a1 S7 D7 => ?_⟩
        have X7 := X0.step npd ntd S7 D7
        refine ⟨_, rfl, _, _, rfl, rfl, _, rfl, _, _, rfl, rfl, _, rfl, _, _, rfl, rfl, ⟨by decide, by decide⟩, _, _, rfl, _, rfl, _, _, rfl, rfl, _, _, rfl, (by show 5 ≤ sizeLine; decide), fun p8 np8 => ?_⟩
        have X8 := X7.new (o := .lst [V.int a, .int (1 + (i : Int) - 1), .int 0, .int (if (1 + (i : Int)) / 2 < 1 + (i : Int) - 1 then (1 + (i : Int)) / 2 else 1 + (i : Int) - 1), .int (if 1 + (i : Int) - 3 > 0 then 1 + (i : Int) - 3 else 0)]) np8
        obtain ⟨v, hv, mv⟩ := atI_in (xs := [V.int a, .int (1 + (i : Int) - 1), .int 0, .int (if (1 + (i : Int)) / 2 < 1 + (i : Int) - 1 then (1 + (i : Int)) / 2 else 1 + (i : Int) - 1), .int (if 1 + (i : Int) - 3 > 0 then 1 + (i : Int) - 3 else 0)]) w0 (by simpa using w1)
        have hs : ∃ m : Nat, v = .int m ∧ m < i + 1 := by
          simp only [List.mem_cons, List.not_mem_nil, or_false] at mv
          rcases mv with e | e | e | e | e
          · exact ⟨a.toNat, by rw [e]; congr 1 <;> omega, by omega⟩
          · exact ⟨i, by rw [e]; congr 1 <;> omega, by omega⟩
          · exact ⟨0, e, by omega⟩
          · by_cases z : (1 + (i : Int)) / 2 < 1 + (i : Int) - 1
            · rw [if_pos z] at e
              exact ⟨(1 + i) / 2, by rw [e]; congr 1 <;> omega, by omega⟩
            · rw [if_neg z] at e
              exact ⟨i, by rw [e]; congr 1 <;> omega, by omega⟩
          · by_cases z : 1 + (i : Int) - 3 > 0
            · rw [if_pos z] at e
              exact ⟨i - 2, by rw [e]; congr 1 <;> omega, by omega⟩
            · rw [if_neg z] at e
              exact ⟨0, e, by omega⟩
        obtain ⟨at', rfl, hat⟩ := hs
        refine ⟨_, rfl, p8, _, shape, _, rfl, rfl, SqL.of upd_same, hv, ?_⟩
        -- pair
        have la : at' < ls.length := by omega
        have lk : i + 1 < ls.length := by omega
        have ga : ((ls.map S).map V.str)[at']? = some (.str (S ls[at'])) := by
          rw [List.getElem?_map, List.getElem?_map, List.getElem?_eq_getElem la]
          rfl
        have gk : ((ls.map S).map V.str)[i + 1]? = some (.str (S ls[i + 1])) := by
          rw [List.getElem?_map, List.getElem?_map, List.getElem?_eq_getElem lk]
          rfl
        have ek : 1 + (i : Int) = ((i + 1 : Nat) : Int) := by omega
        refine ⟨_, rfl, _, rfl, p, _, at', _, rfl, rfl, SqL.of X8.nm, atI_nat ga, _, rfl, _, rfl, p, _, 1 + (i : Int), _, rfl, rfl, SqL.of X8.nm, by rw [ek]; exact atI_nat gk, (by show 2 ≤ sizeLine; decide), fun e1 ne1 => ?_⟩
        have X9 := X8.new (o := .lst [.str (S ls[at']), .str (S ls[i + 1])]) ne1
        have he1 : (upd (upd H7 p8 (.lst [V.int a, .int (1 + (i : Int) - 1), .int 0, .int (if (1 + (i : Int)) / 2 < 1 + (i : Int) - 1 then (1 + (i : Int)) / 2 else 1 + (i : Int) - 1), .int (if 1 + (i : Int) - 3 > 0 then 1 + (i : Int) - 3 else 0)])) e1 (.lst [.str (S ls[at']), .str (S ls[i + 1])])) e1 = some (.lst [.str (S ls[at']), .str (S ls[i + 1])]) := upd_same
        generalize upd (upd H7 p8 (.lst [V.int a, .int (1 + (i : Int) - 1), .int 0, .int (if (1 + (i : Int)) / 2 < 1 + (i : Int) - 1 then (1 + (i : Int)) / 2 else 1 + (i : Int) - 1), .int (if 1 + (i : Int) - 3 > 0 then 1 + (i : Int) - 3 else 0)])) e1 (.lst [.str (S ls[at']), .str (S ls[i + 1])]) = H9 at X9 he1
        have ed1 : e1 ≠ d := X8.dk.nd ne1
        refine ⟨fun σ'' H'' => ∃ (e : Addr) (xa xb : Nm), σ'' = [some (.ref d), some (.int most), some (.ref tk), some (.int many), some (.int shape), some (.int far), some (.ref p), some (.ref t), some (.int (1 + (i : Int))), some (.int at'), some (.ref e), none, none] ∧ H'' e = some (.lst [.str (S xa), .str (S xb)]) ∧ e ≠ d ∧ ((xa = ls[at'] ∧ xb = ls[i + 1]) ∨ (xa = ls[i + 1] ∧ xb = ls[at'])) ∧ Tr H H'' d p t (n + 1110 + 3 * i + 2) ls tvs ts, ?_, fun σ'' H'' hM => ?_⟩
        · refine ⟨_, rfl, d, _, 2, rfl, X9.dk, by omega, by decide, by decide, fun H10 b b0 b1 S10 D10 => ?_⟩
          have X10 := X9.step npd ntd S10 D10
          have he10 := S10 e1 _ ed1 he1
          refine ⟨rfl, _, rfl, ite2 (fun e => ?_) (fun e => ?_)⟩
          · refine ⟨_, rfl, e1, _, rfl, SqL.of he10, fun e2 ne2 => ?_⟩
            exact ⟨e2, ls[i + 1], ls[at'], rfl, upd_same, X10.dk.nd ne2, .inr ⟨rfl, rfl⟩, X10.new ne2⟩
          · exact ⟨e1, ls[at'], ls[i + 1], rfl, he10, ed1, .inl ⟨rfl, rfl⟩, X10⟩
        obtain ⟨e, xa, xb, rfl, he, ed, hab, X10⟩ := hM
        -- ties.append
        refine ⟨_, rfl, .inl ⟨rfl, _, SqL.of X10.tt⟩, _, rfl, e, _, 0, _, rfl, rfl, SqL.of he, rfl, _, rfl, e, _, 1, _, rfl, rfl, SqL.of he, rfl, ?_⟩
        refine ⟨_, rfl, _, rfl, d, _, far, rfl, X10.dk, by omega, by omega, by omega, fun H11 lg l0 l1 S11 D11 => ⟨_, _, rfl, rfl, ?_⟩⟩
        have X11 := X10.step npd ntd S11 D11
        refine ⟨(by show 3 ≤ sizeLine; decide), fun e4 ne4 => ?_⟩
        have X12 := X11.new (o := .tup [.str (S xa), .str (S xb), .int (1 + lg)]) ne4
        have tl : tvs.length = ts.length := by
          have := DtAll.len X12.al
          rwa [List.length_map] at this
        have gl := hG.len
        rw [List.length_take] at gl
        refine ⟨t, tvs, _, rfl, rfl, X12.tt, sz_lt (by omega), ?_⟩
        have tk' : TK (upd H11 e4 (.tup [.str (S xa), .str (S xb), .int (1 + lg)])) (upd (upd H11 e4 (.tup [.str (S xa), .str (S xb), .int (1 + lg)])) t (.lst (tvs ++ [.ref e4]))) := TK.mut X12.tt
        refine ⟨_, _, _, tvs ++ [.ref e4], ts ++ [(xa, xb, 1 + lg)], rfl, ?_, ?_, upd_same, ?_, X12.sm.put nt0, (X12.dk.put ntd).mono (by omega)⟩
        · have e5 : ls.take (i + 1 + 1) = ls.take (i + 1) ++ [ls[i + 1]] := by
            rw [List.take_add_one, List.getElem?_eq_getElem lk]
            rfl
          rw [e5]
          refine Grown.leaf (a := ls[at']) (k := 1 + lg) hG ?_ ?_ ?_ (by omega) (by omega)
          · exact List.mem_take_iff_getElem.mpr ⟨at', by omega, rfl⟩
          · intro hm
            obtain ⟨j, hj, ej⟩ := List.mem_take_iff_getElem.mp hm
            have := (List.getElem_inj nd).mp ej
            omega
          · rcases hab with ⟨z1, z2⟩ | ⟨z1, z2⟩ <;> rw [z1, z2]
            · exact .inl rfl
            · exact .inr rfl
        · unfold NamesAt
          rw [upd_ne ntp]
          exact X12.nm
        · rw [List.map_append]
          exact DtAll.app (DtAll.keep tk' X12.al) (.cons (.tup (tk'.tup _ _ upd_same) (.cons (.str _) (.cons (.str _) (.cons (.int _) .nil)))) .nil)
      · obtain ⟨x8, x9, x10, tvs, ts, rfl, hG, X0⟩ := hP
        refine ⟨_, _, _, tvs, ts, rfl, ?_, X0.mono (by omega)⟩
        rwa [List.take_of_length_le (by omega)] at hG
    · obtain ⟨x8, x9, x10, tvs, ts, rfl, hG, X0⟩ := hM
      -- left
      refine ⟨_, rfl, p, _, rfl, .inl (SqL.of X0.nm), fun lf nlf => ?_⟩
      have X1 := X0.new (o := .lst ((ls.map S).map V.str)) nlf
      have lfd := X0.dk.nd nlf
      have lf0 : H lf = none := X0.sm.free nlf lfd
      have lfp : lf ≠ p := (ne_of_none X0.nm nlf).symm
      have lft : lf ≠ t := (ne_of_none X0.tt nlf).symm
      -- places
      refine ⟨_, rfl, (many : Int), rfl, by omega, by omega, fun D nD => ?_⟩
      have Dd := X1.dk.nd nD
      have D0 : H D = none := X1.sm.free nD Dd
      have Dp' : D ≠ p := (ne_of_none X1.nm nD).symm
      have DNt : D ≠ t := (ne_of_none X1.tt nD).symm
      have Dlf : D ≠ lf := (ne_of_none upd_same nD).symm
      refine lc_range (lo := 0) (n := (many : Int).toNat) (fun i H'' => ∃ l1 l2 : List Nm, l1.length = i ∧ (l1 ++ l2).Perm ls ∧ H'' D = some (.lst ((l1.map S).map V.str)) ∧ H'' lf = some (.lst ((l2.map S).map V.str)) ∧ Tr H H'' d p t (n + 1250 + i) ls tvs ts)
        ⟨[], ls, rfl, List.Perm.refl _, upd_same, by rw [upd_ne Dlf.symm]; exact upd_same, X1.new nD⟩ (fun i H'' hi hP => ?_) (fun H'' hP => ?_)
      · obtain ⟨l1, l2, hl1, pm, hD, hlf, X2⟩ := hP
        have ll := pm.length_eq
        rw [List.length_append] at ll
        refine ⟨rfl, _, rfl, .inl ⟨rfl, _, SqL.of hlf⟩, _, rfl, _, rfl, .ref lf, _, rfl, .inl ⟨_, SqL.of hlf, rfl⟩, d, _, _, rfl, X2.dk, by omega, by rw [List.length_map, List.length_map]; omega, by rw [List.length_map, List.length_map]; omega, fun H3 r r0 r1 S3 D3 => ?_⟩
        have X3 := X2.step npd ntd S3 D3
        have hD3 := S3 D _ Dd hD
        have hlf3 := S3 lf _ lfd hlf
        rw [List.length_map, List.length_map] at r1
        have hx : l2[r.toNat]? = some (l2[r.toNat]'(by omega)) := List.getElem?_eq_getElem (by omega)
        generalize l2[r.toNat]'(by omega) = x at hx
        have hx' : ((l2.map S).map V.str)[r.toNat]? = some (.str (S x)) := by
          rw [List.getElem?_map, List.getElem?_map, hx]
          rfl
        refine ⟨lf, _, r, r.toNat, .str (S x), rfl, rfl, hlf3, by omega, by omega, seq_ix r0 (by rw [List.length_map, List.length_map]; exact r1), hx', ?_⟩
        have X4 := X3.put (o := .lst (((l2.map S).map V.str).eraseIdx r.toNat)) lfp lft lfd lf0 hlf3
        have hD4 : (upd H3 lf (.lst (((l2.map S).map V.str).eraseIdx r.toNat))) D = some (.lst ((l1.map S).map V.str)) := by
          rw [upd_ne Dlf]
          exact hD3
        refine ⟨_, hD4, by rw [List.length_map, List.length_map]; exact sz_lt (by omega), l1 ++ [x], l2.eraseIdx r.toNat, by rw [List.length_append, hl1]; rfl, perm_pick pm hx, ?_, ?_, X4.put Dp' DNt Dd D0 hD4⟩
        · rw [upd_same, List.map_append, List.map_append]
          rfl
        · rw [upd_ne Dlf.symm, upd_same, map_erase, map_erase]
      · obtain ⟨l1, l2, hl1, pm, hD, hlf, X2⟩ := hP
        have ll := pm.length_eq
        rw [List.length_append] at ll
        have e2 : l2 = [] := List.length_eq_zero_iff.mp (by omega)
        subst e2
        rw [List.append_nil] at pm
        have gl := hG.len
        refine ⟨D, _, rfl, SqL.of hD, fun q1 o1 nq1 od1 => ?_⟩
        have X2' := (X2.new (o := .frz o1 (.tup ((l1.map S).map V.str))) nq1).mono (m := n + 1280) (by omega)
        have hq1 : (upd H'' q1 (.frz o1 (.tup ((l1.map S).map V.str)))) q1 = some (.frz o1 (.tup ((l1.map S).map V.str))) := upd_same
        generalize upd H'' q1 (.frz o1 (.tup ((l1.map S).map V.str))) = H20 at X2' hq1
        have q1d : q1 ≠ d := X2.dk.nd nq1
        -- mixed
        refine ⟨_, rfl, _, rfl, _, _, rfl, rfl, (many : Int) - 1, rfl, by omega, by omega, fun G nG => ?_⟩
        have Gd := X2'.dk.nd nG
        have G0 : H G = none := X2'.sm.free nG Gd
        have Gp : G ≠ p := (ne_of_none X2'.nm nG).symm
        have Gt : G ≠ t := (ne_of_none X2'.tt nG).symm
        have Gq : G ≠ q1 := (ne_of_none hq1 nG).symm
        have tq : t ≠ q1 := ne_of X2'.tt hq1 (by intro z; cases z)
        refine lc_range (lo := 0) (n := ((many : Int) - 1).toNat) (fun i H'' => ∃ (ts1 ts2 : List Tie) (vs1 vs2 : List V), ts1.length = i ∧ (ts1 ++ ts2).Perm ts ∧ H'' q1 = some (.frz o1 (.tup ((l1.map S).map V.str))) ∧ H'' G = some (.lst vs1) ∧ DtAll H'' vs1 (ts1.map tieD) ∧ Tr H H'' d p t (n + 1280 + i) ls vs2 ts2)
          ⟨[], ts, [], tvs, rfl, List.Perm.refl _, by rw [upd_ne Gq.symm]; exact hq1, upd_same, .nil, X2'.new nG⟩ (fun i H3 hi hP => ?_) (fun H3 hP => ?_)
        · obtain ⟨ts1, ts2, vs1, vs2, hl1', pm', hD3, hG3, hA3, X3⟩ := hP
          have ll' := pm'.length_eq
          rw [List.length_append] at ll'
          have v2 : vs2.length = ts2.length := by
            have := DtAll.len X3.al
            rwa [List.length_map] at this
          have v1 : vs1.length = ts1.length := by
            have := DtAll.len hA3
            rwa [List.length_map] at this
          refine ⟨rfl, _, rfl, .inl ⟨rfl, _, SqL.of X3.tt⟩, _, rfl, _, rfl, .ref t, _, rfl, .inl ⟨_, SqL.of X3.tt, rfl⟩, d, _, _, rfl, X3.dk, by omega, by omega, by omega, fun H4 r r0 r1 S4 D4 => ?_⟩
          have X4 := X3.step npd ntd S4 D4
          have hD4 := S4 q1 _ q1d hD3
          have hG4 := S4 G _ Gd hG3
          have hA4 := DtAll.keep (X3.dk.tk S4) hA3
          have hy : vs2[r.toNat]? = some (vs2[r.toNat]'(by omega)) := List.getElem?_eq_getElem (by omega)
          generalize vs2[r.toNat]'(by omega) = y at hy
          obtain ⟨dy, hdy, hDy⟩ := DtAll.get X4.al hy
          have hx : ts2[r.toNat]? = some (ts2[r.toNat]'(by omega)) := List.getElem?_eq_getElem (by omega)
          generalize ts2[r.toNat]'(by omega) = x at hx
          have edy : dy = tieD x := by
            rw [List.getElem?_map, hx] at hdy
            exact (Option.some.inj hdy).symm
          subst edy
          refine ⟨t, _, r, r.toNat, y, rfl, rfl, X4.tt, by omega, by omega, seq_ix r0 r1, hy, ?_⟩
          have X5 := X4.take (k := r.toNat) ntp ntd nt0
          have hG5 : (upd H4 t (.lst (vs2.eraseIdx r.toNat))) G = some (.lst vs1) := by
            rw [upd_ne Gt]
            exact hG4
          have hD5 : (upd H4 t (.lst (vs2.eraseIdx r.toNat))) q1 = some (.frz o1 (.tup ((l1.map S).map V.str))) := by
            rw [upd_ne tq.symm]
            exact hD4
          have tk' : TK H4 (upd (upd H4 t (.lst (vs2.eraseIdx r.toNat))) G (.lst (vs1 ++ [y]))) := (TK.mut X4.tt).trans (TK.mut hG5)
          refine ⟨_, hG5, sz_lt (by omega), ts1 ++ [x], ts2.eraseIdx r.toNat, vs1 ++ [y], vs2.eraseIdx r.toNat, by rw [List.length_append, hl1']; rfl, perm_pick pm' hx, by rw [upd_ne Gq.symm]; exact hD5, upd_same, ?_, X5.put Gp Gt Gd G0 hG5⟩
          rw [List.map_append]
          exact DtAll.app (DtAll.keep tk' hA4) (.cons (Dt.keep tk' hDy) .nil)
        · obtain ⟨ts1, ts2, vs1, vs2, hl1', pm', hD3, hG3, hA3, X3⟩ := hP
          have ll' := pm'.length_eq
          rw [List.length_append] at ll'
          have e2 : ts2 = [] := List.length_eq_zero_iff.mp (by omega)
          subst e2
          rw [List.append_nil] at pm'
          refine .inl ⟨G, vs1, rfl, SqL.of hG3, fun q2 nq2 => ?_⟩
          have X7 := X3.new (o := .tup vs1) nq2
          refine ⟨(by show 2 ≤ sizeLine; decide), fun q3 nq3 => ?_⟩
          have X8 := X7.new (o := .tup [.ref q1, .ref q2]) nq3
          have tk1 : TK H3 (upd (upd H3 q2 (.tup vs1)) q3 (.tup [.ref q1, .ref q2])) := (TK.new nq2).trans (TK.new nq3)
          have tk2 : TK (upd H3 q2 (.tup vs1)) (upd (upd H3 q2 (.tup vs1)) q3 (.tup [.ref q1, .ref q2])) := TK.new nq3
          have it : IsTree l1 ts1 := ⟨ls, ts, hG, pm, pm'⟩
          have plne : l1 ≠ [] := fun z => by
            have := it.len
            rw [z] at this
            simp at this
          have hz := tk1.frz _ _ _ hD3
          exact q _ q3 l1 ts1 it (fun x hx => ok x (pm.mem_iff.mp hx)) (fun x hx => un x (pm.mem_iff.mp hx)) (by rw [pm.length_eq]; omega) (.tup upd_same (.cons (.tupZ rfl plne od1 hz) (.cons (.tup (tk2.tup _ _ upd_same) (DtAll.keep tk1 hA3)) .nil))) ⟨q3, q1, q2, o1, rfl, upd_same, od1, hz⟩ X8.sm (X8.dk.mono (by omega))
end
end Far

namespace Far
open PySem PySem.Spec PyProof.Rows L2
open C8 (pss_cut tCut)
open SX (S)
structure TxtH (mg : Str → Option Value) : Prop where
  len : mg "len" = none
  gcd : mg "gcd" = some (.builtin "math.gcd")
abbrev s_fraction : Stmt := topS 24
abbrev N_fraction : List Str := ["above", "below", "common"]
theorem sc_fraction : FnScope N_fraction ["above", "below"] (defScope s_fraction) := ⟨rfl, rfl, rfl, by decide +kernel, rfl, by decide +kernel, by decide +kernel⟩
abbrev s_half_way : Stmt := topS 23
abbrev N_half_way : List Str := ["tree", "one", "other", "way", "gone", "whole", "at", "there", "here", "place", "length"]
theorem sc_half_way : FnScope N_half_way ["tree", "one", "other"] (defScope s_half_way) := ⟨rfl, rfl, rfl, by decide +kernel, rfl, by decide +kernel, by decide +kernel⟩
abbrev s_middle_point : Stmt := topS 22
abbrev N_middle_point : List Str := ["tree", "greatest", "one", "other"]
theorem sc_middle_point : FnScope N_middle_point ["tree"] (defScope s_middle_point) := ⟨rfl, rfl, rfl, by decide +kernel, rfl, by decide +kernel, by decide +kernel⟩
theorem idx_at {pl : List Nm} (nd : pl.Nodup) {y : Nm} (hy : y ∈ pl) : (pl.map S)[pl.idxOf y]? = some (S y) ∧ ∀ i, i < pl.idxOf y → (pl.map S)[i]? ≠ some (S y) := by
  have h1 : pl.idxOf y < pl.length := List.idxOf_lt_length_of_mem hy
  have h2 : pl[pl.idxOf y] = y := List.getElem_idxOf h1
  refine ⟨by rw [List.getElem?_map, List.getElem?_eq_getElem h1, h2]; rfl, fun i hi h => ?_⟩
  rw [List.getElem?_map, List.getElem?_eq_getElem (by omega)] at h
  have h3 : pl[i] = y := SX.S_inj (Option.some.inj h)
  have := (List.getElem_inj nd).mp (h3.trans h2.symm)
  omega
section
variable {P : Program} {w : World} {K : PySem.W.Frag} {mg : Str → Option Value} {base : Heap}
def spFrac : Sp := fun vs H Q _ => ∃ n : Int, vs = [.int n, .int 2] ∧ ∀ (H' : Hp) (r : V), Same H H' → Dt H' r (halfD n) → Q r H'
theorem ok_fraction {f : Addr} {fd : FuncData} (F : Fun K "_fraction" "_fraction" s_fraction f fd) (T : TxtH mg) : FnOk P w K mg base CX0 1 f fd ["above", "below"] spFrac := by
  refine F.ok sc_fraction (fun vs H Q E h => ?_) (fun cdv A outer s H vs Q E hr h => ?_)
  · obtain ⟨n, rfl, _⟩ := h
    rfl
  · obtain ⟨n, rfl, q⟩ := h
    refine ⟨_, (pss_cons (ps_set (i := 2) sc_fraction.nd rfl (.inl rfl) (pe_callBfun cr_gcd (by rfl) T.gcd (pa_cons (pv 0) (pa_cons (pv 1) pa_nil))))
      (pss_one (ps_ret (pe_tup (pa_cons (pe_op op_fdiv (pv 0) (pv 2)) (pa_cons (pe_op op_fdiv (pv 1) (pv 2)) pa_nil)))))), ?_⟩
    refine ⟨_, rfl, _, rfl, n, 2, rfl, ?_⟩
    rw [gcd_two]
    by_cases c : n % 2 = 0
    · rw [if_pos c]
      refine ⟨_, rfl, _, rfl, _, _, rfl, rfl, ⟨by decide, by decide⟩, _, rfl, _, rfl, _, _, rfl, rfl, ⟨by decide, by decide⟩, (by show 2 ≤ sizeLine; decide), fun r nr => q _ _ (same_new (Same.refl H) nr) ?_⟩
      unfold halfD
      rw [if_pos c]
      exact .tup upd_same (.cons (.int _) (.cons (.int _) .nil))
    · rw [if_neg c]
      refine ⟨_, rfl, _, rfl, _, _, rfl, rfl, ⟨by decide, by decide⟩, _, rfl, _, rfl, _, _, rfl, rfl, ⟨by decide, by decide⟩, (by show 2 ≤ sizeLine; decide), fun r nr => q _ _ (same_new (Same.refl H) nr) ?_⟩
      unfold halfD
      rw [if_neg c]
      refine .tup upd_same (.cons ?_ (.cons (.int _) .nil))
      show Dt _ (.int (n / 1)) (.int n)
      rw [Int.ediv_one]
      exact .int _
def spHalfWay : Sp := fun vs H Q _ => ∃ (v : V) (pl : List Nm) (ts : List Tie) (u x : Nm), vs = [v, .str (S u), .str (S x)] ∧ Dt H v (treeD pl ts) ∧ PlZ H v pl ∧ Fine pl ts ∧ u ∈ pl ∧ x ∈ pl ∧ ∀ (H' : Hp) (r : V), Same H H' → Dt H' r (pointD pl ts u x) → Q r H'
theorem ok_half_way {f : Addr} {fd : FuncData} (F : Fun K "_half_way" "_half_way" s_half_way f fd) (T : TxtH mg) (Cway_between : Cal P w K mg base 3 "way_between" spWay) (Clength_between : Cal P w K mg base 3 "length_between" spLen) (C_fraction : Cal P w K mg base 1 "_fraction" spFrac) : FnOk P w K mg base CX0 4 f fd ["tree", "one", "other"] spHalfWay := by
  refine F.ok sc_half_way (fun vs H Q E h => ?_) (fun cdv A outer s H vs Q E hr h => ?_)
  · obtain ⟨v, pl, ts, u, x, rfl, _⟩ := h
    rfl
  · obtain ⟨v, pl, ts, u, x, rfl, hd, hz, fine, hu, hx, q⟩ := h
    have w := fine.tree.the_way hu hx
    have plen := path_len fine hu hx
    have inP : ∀ y ∈ path ts u x, y ∈ pl := fun y hy => w.inside (fun e he => ⟨(fine.tree.ties e he).1, (fine.tree.ties e he).2.1⟩) hu y hy
    have mf := mid_facts fine.tree hu hx
    have nd := fine.tree.nodup
    refine ⟨_, (pss_cons (ps_set (i := 3) sc_half_way.nd rfl (.inl rfl) (pe_c Cway_between hr (by decide) rfl (pa_cons (pv 0) (pa_cons (pv 1) (pa_cons (pv 2) pa_nil)))))
      (pss_cons (ps_setLc (i := 4) (own := [("place", 9)]) (g := gName 9) (tt := tYes) rfl sc_half_way.nd rfl rfl (sw_true rfl rfl rfl (by decide +kernel)) (pi_tup (pv 3)) (blkOk_by (N := N_half_way) (sc := defScope s_half_way) (by decide +kernel)) (fun _ _ _ _ _ => pg_name (i := 9) sc_half_way.nd rfl (Or.inl rfl)) (fun _ _ _ _ _ => pts_nil) (fun _ _ _ _ _ => (pe_c Clength_between hr (by decide) rfl (pa_cons (pv 0) (pa_cons (pv 1) (pa_cons (pv 9) pa_nil))))))
      (pss_cons (ps_set (i := 5) sc_half_way.nd rfl (.inr rfl) (pe_ix ix_list (pv 4) (pe_un un_neg pe_int) (fun _ _ => rfl)))
      (pss_cons (ps_set (i := 6) sc_half_way.nd rfl (.inl rfl) (pe_callB call_len_seq (by rfl) T.len bt_len (pa_cons (pe_lc (own := [("length", 10)]) (g := gName 10)  rfl sc_half_way.nd (pi_list (pv 4)) (blkOk_by (N := N_half_way) (sc := defScope s_half_way) (by decide +kernel)) (fun _ _ _ _ _ => pg_name (i := 10) sc_half_way.nd rfl (Or.inl rfl)) (fun _ _ _ _ _ => pts_one (pt_cmpR op_lt (pe_op op_mul pe_int (pv 10)) (pv 5) (nomark _))) (fun _ _ _ _ _ => (pv 10))) pa_nil)))
      (pss_cons (ps_set (i := 7) sc_half_way.nd rfl (.inl rfl) (pe_ix ix_tup (pv 3) (pv 6) (fun _ _ => rfl)))
      (pss_cut (ps_if (pt_cmpR op_eq (pe_op op_mul pe_int (pe_ix ix_list (pv 4) (pv 6) (fun _ _ => rfl))) (pv 5) (nomark _))
        (pss_one (ps_ret (pe_tup (pa_cons (pv 7) (pa_cons (pv 7) (pa_cons (pe_tup (pa_cons pe_int (pa_cons pe_int pa_nil))) pa_nil))))))
        pss_nil)
      (pss_cons (ps_set (i := 8) sc_half_way.nd rfl (.inl rfl) (pe_ix ix_tup (pv 3) (pe_op op_sub (pv 6) pe_int) (fun _ _ => rfl)))
      (pss_cut (ps_if (pt_cmpR op_lt (pe_ixZ (pe_ix ix_tup (pv 0) pe_int (fun _ _ => rfl)) (pv 8)) (pe_ixZ (pe_ix ix_tup (pv 0) pe_int (fun _ _ => rfl)) (pv 7)) (nomark _))
        (pss_one (ps_ret (pe_tup (pa_cons (pv 8) (pa_cons (pv 7) (pa_cons (pe_c C_fraction hr (by decide) rfl (pa_cons (pe_op op_sub (pv 5) (pe_op op_mul pe_int (pe_ix ix_list (pv 4) (pe_op op_sub (pv 6) pe_int) (fun _ _ => rfl)))) (pa_cons pe_int pa_nil))) pa_nil))))))
        pss_nil)
      (pss_one (ps_ret (pe_tup (pa_cons (pv 7) (pa_cons (pv 8) (pa_cons (pe_c C_fraction hr (by decide) rfl (pa_cons (pe_op op_sub (pe_op op_mul pe_int (pe_ix ix_list (pv 4) (pv 6) (fun _ _ => rfl))) (pv 5)) (pa_cons pe_int pa_nil))) pa_nil)))))))))))))), ?_⟩
    refine ⟨_, rfl, _, rfl, _, rfl, v, pl, ts, u, x, rfl, hd, fine, hu, hx, fun H1 p S1 np hp => ?_⟩
    refine ⟨_, rfl, p, rfl, ⟨_, SqT.of hp⟩, fun C nC => ?_⟩
    refine lc_tup (K := K) (a := p) (xs := ((path ts u x).map S).map V.str) (fun i H' => Same H1 H' ∧ H' C = some (.lst ((((path ts u x).take i).map (dist ts u)).map V.int))) ⟨same_new (Same.refl H1) nC, upd_same⟩ (fun i H' _ hP => SqT.of (hP.1 _ _ hp)) (fun i v' H' hi hP => ?_) (fun H' hP => ?_)
    · obtain ⟨sm, hC⟩ := hP
      obtain ⟨y, ey, hy, rfl, et⟩ := at_name hi
      refine ⟨rfl, _, rfl, _, rfl, _, rfl, v, pl, ts, u, y, rfl, Dt.keep (TK.of (S1.trans sm)) hd, fine, hu, inP y hy, fun H2 S2 => ?_⟩
      refine ⟨_, S2 _ _ hC, ?_, same_put (sm.trans S2) nC, ?_⟩
      · rw [List.length_map, List.length_map, List.length_take]
        exact sz_lt (by omega)
      · rw [upd_same, et, List.map_append, List.map_append]
        rfl
    · obtain ⟨sm, hC⟩ := hP
      rw [List.length_map, List.length_map, List.take_length] at hC
      have S2 := S1.trans sm
      have hp2 := sm _ _ hp
      have glast : atI (((path ts u x).map (dist ts u)).map V.int) (-1) = some (.int (dist ts u x)) := by
        obtain ⟨q', el⟩ := w.last
        rw [el, List.map_append, List.map_append]
        exact atI_last _ _
      refine ⟨_, rfl, _, rfl, C, _, -1, _, rfl, rfl, SqL.of hC, glast, ?_⟩
      have hgl : ((path ts u x).map (dist ts u)).length = (path ts u x).length := List.length_map _
      refine ⟨_, rfl, C, rfl, ⟨_, SqL.of hC⟩, fun B nB => ?_⟩
      refine lc_list (K := K) (a := C) (xs := ((path ts u x).map (dist ts u)).map V.int) (fun i H'' => Same H' H'' ∧ H'' B = some (.lst (((((path ts u x).map (dist ts u)).take i).filter fun z => decide (2 * z < dist ts u x)).map V.int))) ⟨same_new (Same.refl H') nB, upd_same⟩ (fun i H'' _ hP => SqL.of (hP.1 _ _ hC)) (fun i v' H'' hi hP => ?_) (fun H'' hP => ?_)
      · obtain ⟨sm2, hB⟩ := hP
        rw [List.getElem?_map] at hi
        cases em : ((path ts u x).map (dist ts u))[i]? with
        | none => rw [em] at hi; cases hi
        | some m =>
          rw [em] at hi
          have ev : v' = .int m := (Option.some.inj hi).symm
          subst ev
          have et : ((path ts u x).map (dist ts u)).take (i + 1) = ((path ts u x).map (dist ts u)).take i ++ [m] := by rw [List.take_add_one, em]; rfl
          refine ⟨rfl, _, rfl, _, _, rfl, rfl, .inl ⟨by decide, by decide⟩, _, rfl, _, _, rfl, rfl, _, rfl, ?_⟩
          rw [et, List.filter_append]
          refine ite2 (fun z => ?_) (fun z => ?_)
          · refine ⟨_, rfl, _, hB, ?_, same_put sm2 nB, ?_⟩
            · rw [List.length_map]
              have := List.length_filter_le (fun z => decide (2 * z < dist ts u x)) (((path ts u x).map (dist ts u)).take i)
              rw [List.length_take] at this
              exact sz_lt (by omega)
            · rw [upd_same, List.filter_cons, if_pos z, List.map_append]
              rfl
          · rw [List.filter_cons, if_neg z, List.filter_nil, List.append_nil]
            exact ⟨sm2, hB⟩
      · obtain ⟨sm2, hB⟩ := hP
        rw [List.length_map, List.take_length] at hB
        have S3 := S2.trans sm2
        have hp3 := sm2 _ _ hp2
        have hC3 := sm2 _ _ hC
        refine ⟨B, _, rfl, .inl (SqL.of hB), ?_⟩
        rw [List.length_map]
        have ek : ((((path ts u x).map (dist ts u)).filter fun z => decide (2 * z < dist ts u x)).length : Int) = (midK ts u x : Int) := rfl
        rw [ek]
        obtain ⟨t, a, b, o, rfl, ht, od, haz⟩ := hz
        have gw : ∀ {k : Nat} {y : Nm}, (path ts u x)[k]? = some y → atI (((path ts u x).map S).map V.str) (k : Int) = some (.str (S y)) := fun h => atI_nat (by rw [List.getElem?_map, List.getElem?_map, h]; rfl)
        have gg : ∀ {k : Nat} {y : Nm}, (path ts u x)[k]? = some y → atI (((path ts u x).map (dist ts u)).map V.int) (k : Int) = some (.int (dist ts u y)) := fun h => atI_nat (by rw [List.getElem?_map, List.getElem?_map, h]; rfl)
        refine ⟨_, rfl, _, rfl, p, _, (midK ts u x : Int), _, rfl, rfl, SqT.of hp3, gw mf.hiE, ?_⟩
        refine ⟨fun σ3 H3 => σ3 = [some (.ref t), some (.str (S u)), some (.str (S x)), some (.ref p), some (.ref C), some (.int (dist ts u x)), some (.int (midK ts u x : Nat)), some (.str (S (hi ts u x))), none, none, none] ∧ H3 = H'' ∧ 2 * dist ts u (hi ts u x) ≠ dist ts u x, ?_, fun σ3 H3 hM => ?_⟩
        · refine ⟨_, rfl, _, rfl, C, _, (midK ts u x : Int), _, rfl, rfl, SqL.of hC3, gg mf.hiE, _, _, rfl, rfl, .inl ⟨by decide, by decide⟩, _, rfl, rfl, _, rfl, ?_⟩
          refine ite2 (fun z => ?_) (fun z => ⟨rfl, rfl, fun k => z (decide_eq_true (congrArg V.int k))⟩)
          have z : 2 * dist ts u (hi ts u x) = dist ts u x := V.int.inj (of_decide_eq_true z)
          refine ⟨_, rfl, _, rfl, (by show 2 ≤ sizeLine; decide), fun t1 nt1 => ⟨(by show 3 ≤ sizeLine; decide), fun t2 nt2 => ?_⟩⟩
          refine q _ _ (same_new (same_new S3 nt1) nt2) ?_
          unfold pointD
          rw [if_pos z]
          exact .tup upd_same (.cons (.str _) (.cons (.str _) (.cons (.tup ((TK.new nt2).tup _ _ upd_same) (.cons (.int _) (.cons (.int _) .nil))) .nil)))
        · obtain ⟨rfl, rfl, ne⟩ := hM
          obtain ⟨k1, loE, loM, loL⟩ := mf.loE ne
          have ek1 : (midK ts u x : Int) - 1 = ((midK ts u x - 1 : Nat) : Int) := by omega
          refine ⟨_, rfl, _, rfl, _, _, rfl, rfl, p, _, (midK ts u x : Int) - 1, _, rfl, rfl, SqT.of hp3, by rw [ek1]; exact gw loE, ?_⟩
          obtain ⟨i1, i2⟩ := idx_at nd (inP _ loM)
          obtain ⟨j1, j2⟩ := idx_at nd (inP _ mf.hiM)
          have ht3 := S3 _ _ ht
          have ha3 := S3 _ _ haz
          refine ⟨fun σ4 H4 => σ4 = [some (.ref t), some (.str (S u)), some (.str (S x)), some (.ref p), some (.ref C), some (.int (dist ts u x)), some (.int (midK ts u x : Nat)), some (.str (S (hi ts u x))), some (.str (S (lo ts u x))), none, none] ∧ H4 = H3 ∧ ¬ pl.idxOf (lo ts u x) < pl.idxOf (hi ts u x), ?_, fun σ4 H4 hM => ?_⟩
          · refine ⟨_, rfl, t, _, 0, .ref a, rfl, rfl, SqT.of ht3, atI_nat (j := 0) rfl, a, _, o, rfl, od, ha3, _, rfl, rfl, _, _, rfl, i1, i2, ?_⟩
            refine ⟨_, rfl, t, _, 0, .ref a, rfl, rfl, SqT.of ht3, atI_nat (j := 0) rfl, a, _, o, rfl, od, ha3, _, rfl, rfl, _, _, rfl, j1, j2, _, _, rfl, rfl, _, rfl, ?_⟩
            refine ite2 (fun z => ?_) (fun z => ⟨rfl, rfl, fun k => z (decide_eq_true (by omega))⟩)
            have z : pl.idxOf (lo ts u x) < pl.idxOf (hi ts u x) := by
              have := of_decide_eq_true z
              omega
            refine ⟨_, rfl, _, rfl, _, rfl, _, rfl, _, rfl, _, _, rfl, rfl, C, _, (midK ts u x : Int) - 1, _, rfl, rfl, SqL.of hC3, by rw [ek1]; exact gg loE, _, _, rfl, rfl, .inl ⟨by decide, by decide⟩, _, _, rfl, rfl, _, rfl, fun H5 r S5 hr5 => ?_⟩
            refine ⟨(by show 3 ≤ sizeLine; decide), fun t2 nt2 => ?_⟩
            refine q _ _ (same_new (S3.trans S5) nt2) ?_
            unfold pointD
            rw [if_neg ne, if_pos z]
            exact .tup upd_same (.cons (.str _) (.cons (.str _) (.cons (Dt.keep (TK.new nt2) hr5) .nil)))
          · obtain ⟨rfl, rfl, nlt⟩ := hM
            refine ⟨_, rfl, _, rfl, _, rfl, _, rfl, C, _, (midK ts u x : Int), _, rfl, rfl, SqL.of hC3, gg mf.hiE, _, _, rfl, rfl, .inl ⟨by decide, by decide⟩, _, rfl, _, _, rfl, rfl, _, rfl, fun H5 r S5 hr5 => ?_⟩
            refine ⟨(by show 3 ≤ sizeLine; decide), fun t2 nt2 => ?_⟩
            refine q _ _ (same_new (S3.trans S5) nt2) ?_
            unfold pointD
            rw [if_neg ne, if_neg nlt]
            exact .tup upd_same (.cons (.str _) (.cons (.str _) (.cons (Dt.keep (TK.new nt2) hr5) .nil)))
def spMp : Sp := fun vs H Q _ => ∃ (v : V) (pl : List Nm) (ts : List Tie), vs = [v] ∧ Dt H v (treeD pl ts) ∧ PlZ H v pl ∧ Fine pl ts ∧ ∀ (H' : Hp) (r : V), Same H H' → Dt H' r (middleD pl ts) → Q r H'
theorem ok_mp {f : Addr} {fd : FuncData} (F : Fun K "middle_point" "middle_point" s_middle_point f fd) (Cfarthest : Cal P w K mg base 5 "farthest" spFarthest) (C_half_way : Cal P w K mg base 4 "_half_way" spHalfWay) (C_fraction : Cal P w K mg base 1 "_fraction" spFrac) : FnOk P w K mg base CX0 6 f fd ["tree"] spMp := by
  refine F.ok sc_middle_point (fun vs H Q E h => ?_) (fun cdv A outer s H vs Q E hr h => ?_)
  · obtain ⟨v, pl, ts, rfl, _⟩ := h
    rfl
  · obtain ⟨v, pl, ts, rfl, hd, hz, fine, q⟩ := h
    obtain ⟨tu, tx, td⟩ := top_in fine
    refine ⟨_, (pss_cons (ps_asg (pe_c Cfarthest hr (by decide) rfl (pa_cons (pv 0) pa_nil)) (pg_tup rfl (pgs_cons (pg_name (i := 1) sc_middle_point.nd rfl (.inl rfl)) (pgs_cons (pg_name (i := 2) sc_middle_point.nd rfl (.inl rfl)) (pgs_cons (pg_name (i := 3) sc_middle_point.nd rfl (.inl rfl)) pgs_nil)))))
      (pss_one (ps_ret (pe_tup (pa_cons (pe_c C_half_way hr (by decide) rfl (pa_cons (pv 0) (pa_cons (pv 2) (pa_cons (pv 3) pa_nil)))) (pa_cons (pe_c C_fraction hr (by decide) rfl (pa_cons (pv 1) (pa_cons pe_int pa_nil))) pa_nil)))))), ?_⟩
    refine ⟨_, rfl, v, pl, ts, rfl, hd, fine, fun H1 r S1 hr1 => ?_⟩
    rw [(farD_top fine).1] at hr1
    obtain ⟨t1, rfl, ht1⟩ := dt_tri hr1
    refine ⟨t1, _, rfl, SqT.of ht1, rfl, _, _, rfl, _, _, rfl, _, _, rfl, rfl, ?_⟩
    refine ⟨_, rfl, _, rfl, _, rfl, v, pl, ts, _, _, rfl, Dt.keep (TK.of S1) hd, hz.same S1, fine, tu, tx, fun H2 r2 S2 hr2 => ?_⟩
    refine ⟨_, rfl, _, rfl, fun H3 r3 S3 hr3 => ?_⟩
    refine ⟨(by show 2 ≤ sizeLine; decide), fun t2 nt2 => ?_⟩
    refine q _ _ (same_new ((S1.trans S2).trans S3) nt2) ?_
    exact .tup upd_same (.cons (Dt.keep ((TK.of S3).trans (TK.new nt2)) hr2) (.cons (Dt.keep (TK.new nt2) hr3) .nil))
end
end Far

namespace Far
open PySem PySem.Spec PyProof.Rows L2
section
variable {X : Cx}
theorem countU {x : V} : ∀ {ys : List V} {us : List Value}, Vals ys us → ys.all flatV = true → us.countP (eqU x) = ys.countP (fun y => eqV y x)
  | _, _, .nil, _ => rfl
  | y :: ys, u :: us, .cons r t, f => by
    rw [List.all_cons, Bool.and_eq_true] at f
    rw [List.countP_cons, List.countP_cons, eqU_of r f.1, countU t f.2]
/-- list.count of a flat value in a list of flat values -/
def rCountV (K : PySem.W.Frag) : V → List V → Hp → VK → Prop := fun x xs H Q => ∃ (p : Addr) (ys : List V) (y : V), x = .ref p ∧ xs = [y] ∧ SqL K H p ys ∧ flatV y = true ∧ ys.all flatV = true ∧ Q (.int (ys.countP (fun z => eqV z y) : Nat)) H
theorem mt_countV {K : PySem.W.Frag} (eK : X.K = K := by rfl) : MtR X "list.count" (rCountV K) := by
  subst eK
  intro pins s σ H x xs v us Q I rx rxs h
  obtain ⟨p, ys, y, rfl, rfl, hs, fy, fys, q⟩ := h
  cases rx
  obtain ⟨u, rfl, ru⟩ := rxs.one
  obtain ⟨its, rv, ⟨⟨cl, di, da, so⟩, n, ho, hc, hdn, hd⟩, hl⟩ := I.list hs
  simp only at hc hd
  subst hc hd
  refine call_meets PySem.F.slot_list_count ⟨_, ho, rfl⟩ PySem.F.entry_list_count (PySem.F.args_list_count_2 _ _) (SeqAt.list_countAt p its.toArray n di so u (eqU y)) ⟨ho, fun z hz => mem_eqAt ru fy rv fys z (by simpa using hz), ?_⟩
  refine ⟨.int (ys.countP (fun z => eqV z y) : Nat), H, I.tok _, ⟨s.toks, ?_⟩, q⟩
  have e : its.toArray.toList.countP (eqU y) = ys.countP (fun z => eqV z y) := countU rv fys
  rw [e]

end
end Far

namespace Far
open PySem PySem.Spec PyProof.Rows L2
/-! ### dicts with flat values: ==, != (all the same, or of another length) -/
theorem hits_flat {A : Around} {s : Shared} {ls : List (Key × V)} {vb : List (Key × Value)} (rb : KV ls vb) {ks : List (Key × V)} {va : List (Key × Value)}
    (ra : KV ks va) : (∀ p ∈ ks, valV ls p.1 = some p.2 ∧ flatB p.2 = true) → PySem.W.KeqHits A s vb va true := by
  unfold KV at ra
  induction ra with
  | nil => intro _; exact .nil
  | @cons p q ps qs h t k =>
    intro hp
    obtain ⟨h1, h2⟩ := h
    obtain ⟨e, f⟩ := hp p List.mem_cons_self
    have rr : RelO (some p.2) (valueAt vb p.1) := by rw [← e]; exact rb.val p.1
    obtain ⟨y, hy, ry⟩ := rr.some_of
    obtain ⟨key, v⟩ := q
    have h1' : p.1 = key := h1
    rw [h1'] at hy
    show PySem.W.KeqHits A s vb ((key, v) :: qs) (true && true)
    exact .hit hy (eqAt_same h2 ry f) (k fun p' hm => hp p' (List.mem_cons_of_mem _ hm))
def rDK (g : Bool → Bool) : V → V → Hp → VK → Prop := fun x y H Q => ∃ a b ks ls r, x = .ref a ∧ y = .ref b ∧ H a = some (.dK ks) ∧ H b = some (.dK ls) ∧
  ((r = true ∧ ks.length = ls.length ∧ ∀ p ∈ ks, valV ls p.1 = some p.2 ∧ flatB p.2 = true) ∨ (r = false ∧ ks.length ≠ ls.length)) ∧ Q (.bl (g r)) H
theorem op_eqDK {X : Cx} (hu : X.A.units + 64 < cLine) : OpR X (compareOp .Eq) (rDK id) := by
  intro pins s σ H x y v u Q I rx ry h
  obtain ⟨a, b, ks, ls, r, rfl, rfl, ha, hb, hc, q⟩ := h
  cases (show v = Value.ref a from rx)
  cases (show u = Value.ref b from ry)
  obtain ⟨_, ya, va, ra, da⟩ := (show ObjOk X.prog X.w H s.heap a (.dK ks) from I.hok a _ ha)
  obtain ⟨_, yb, vb, rb, db⟩ := (show ObjOk X.prog X.w H s.heap b (.dK ls) from I.hok b _ hb)
  refine PySem.W.keq_eq (knd := mixKind X.prog X.w) (r := true) ya yb da db (by omega) (fun e => ?_) ?_
  · rcases hc with ⟨_, _, h⟩ | ⟨_, n⟩
    · exact hits_flat rb ra h
    · exact absurd (by rw [ra.length, rb.length]; exact e) n
  · have e : (va.length == vb.length && true) = r := by
      rw [Bool.and_true, ← ra.length, ← rb.length]
      rcases hc with ⟨h1, h2, _⟩ | ⟨h1, h2⟩
      · rw [h1, h2]; simp
      · rw [h1]; simpa using h2
    rw [e]
    exact ⟨.bl r, H, I, rfl, q⟩
theorem op_neDK {X : Cx} (hu : X.A.units + 64 < cLine) : OpR X (compareOp .NotEq) (rDK not) := by
  intro pins s σ H x y v u Q I rx ry h
  obtain ⟨a, b, ks, ls, r, rfl, rfl, ha, hb, hc, q⟩ := h
  cases (show v = Value.ref a from rx)
  cases (show u = Value.ref b from ry)
  obtain ⟨_, ya, va, ra, da⟩ := (show ObjOk X.prog X.w H s.heap a (.dK ks) from I.hok a _ ha)
  obtain ⟨_, yb, vb, rb, db⟩ := (show ObjOk X.prog X.w H s.heap b (.dK ls) from I.hok b _ hb)
  refine PySem.W.keq_ne (knd := mixKind X.prog X.w) (r := true) ya yb da db (by omega) (fun e => ?_) ?_
  · rcases hc with ⟨_, _, h⟩ | ⟨_, n⟩
    · exact hits_flat rb ra h
    · exact absurd (by rw [ra.length, rb.length]; exact e) n
  · have e : (va.length == vb.length && true) = r := by
      rw [Bool.and_true, ← ra.length, ← rb.length]
      rcases hc with ⟨h1, h2, _⟩ | ⟨h1, h2⟩
      · rw [h1, h2]; simp
      · rw [h1]; simpa using h2
    rw [e]
    exact ⟨.bl (!r), H, I, rfl, q⟩
theorem bt_sorted : bootBuiltins ("sorted" : Str) = some (.builtin "sorted") := by decide +kernel
theorem bt_dict : bootBuiltins ("dict" : Str) = some (.type "dict") := by decide +kernel
theorem lay_ints : ∀ ls : List Int, PyData.canLayAll0 (ls.map PyData.int) = true
  | [] => rfl
  | x :: r => by
    show (PyData.canLay0 (.int x) && PyData.canLayAll0 (r.map PyData.int)) = true
    rw [lay_ints r]
    rfl
theorem dep_ints : ∀ ls : List Int, PyData.depthAll (ls.map PyData.int) ≤ 1
  | [] => Nat.zero_le _
  | x :: r => by
    show max (PyData.depth (.int x)) (PyData.depthAll (r.map PyData.int)) ≤ 1
    have ih := dep_ints r
    have e : PyData.depth (.int x) = 0 := rfl
    rw [e]
    omega
theorem shaped_intL (ls : List Int) : SeqAt.shaped (.list (ls.map PyData.int)) = true := by
  show (PyData.canLayAll0 (ls.map PyData.int) && decide (PyData.depthAll (ls.map PyData.int) + 1 ≤ 64)) = true
  have := dep_ints ls
  rw [lay_ints, decide_eq_true (by omega)]
  rfl
theorem eqv_ints : ∀ ls : List Int, (PyData.list (ls.map PyData.int)).eqv (.list (ls.map PyData.int)) = true
  | [] => by decide +kernel
  | x :: r => by
    have ih := eqv_ints r
    show ((x == x) && _) = true
    simp
    exact ih
theorem dpI (K : PySem.W.Frag) (H : Hp) : ∀ ls : List Int, DpAll K H (ls.map V.int) (ls.map PyData.int)
  | [] => .nil
  | x :: r => .cons (.int _) (dpI K H r)
/-! ### counting into a dict -/
def dd (s : List Int) : List Int := s.foldl (fun ks x => if x ∈ ks then ks else ks ++ [x]) []
theorem dd_snoc (s : List Int) (x : Int) : dd (s ++ [x]) = if x ∈ dd s then dd s else dd s ++ [x] := by
  unfold dd
  rw [List.foldl_append]
  rfl
def ikm (ks : List Int) (f : Int → V) : List (Key × V) := ks.map fun n => (Sum.inl n, f n)
theorem ikm_val (f : Int → V) (x : Int) : ∀ ks : List Int, valV (ikm ks f) (Sum.inl x) = if x ∈ ks then some (f x) else none
  | [] => rfl
  | a :: r => by
    show valV ((Sum.inl a, f a) :: ikm r f) (Sum.inl x) = _
    by_cases e : a = x
    · subst e
      rw [valV_pos rfl, if_pos (List.mem_cons_self ..)]
    · rw [valV_neg (fun z => e (Sum.inl.inj z)), ikm_val f x r]
      have : (x ∈ a :: r) ↔ x ∈ r := by
        rw [List.mem_cons]
        exact ⟨fun h => h.elim (fun z => absurd z.symm e) id, .inr⟩
      simp only [this]
theorem ikm_put (f : Int → V) (x : Int) (v : V) (ks : List Int) : putK (ikm ks f) (Sum.inl x) v = ikm (if x ∈ ks then ks else ks ++ [x]) (fun z => if z = x then v else f z) := by
  unfold putK
  rw [valV_any, ikm_val]
  by_cases h : x ∈ ks
  · rw [if_pos h, if_pos h, if_pos (by rfl)]
    unfold ikm
    rw [List.map_map]
    refine List.map_congr_left fun a _ => ?_
    show (if (Sum.inl a : Key) = Sum.inl x then ((Sum.inl a : Key), v) else (Sum.inl a, f a)) = (Sum.inl a, if a = x then v else f a)
    by_cases e : a = x
    · rw [if_pos (by rw [e]), if_pos e]
    · rw [if_neg (fun z => e (Sum.inl.inj z)), if_neg e]
  · rw [if_neg h, if_neg h, if_neg (by simp)]
    unfold ikm
    rw [List.map_append]
    refine congr (congrArg _ (List.map_congr_left fun a ha => ?_)) ?_
    · show (Sum.inl a, f a) = (Sum.inl a, if a = x then v else f a)
      rw [if_neg (fun (z : a = x) => h (z ▸ ha))]
    · show [(Sum.inl x, v)] = [(Sum.inl x, if x = x then v else f x)]
      rw [if_pos rfl]
theorem ikm_cong {f g : Int → V} {ks : List Int} (h : ∀ n ∈ ks, f n = g n) : ikm ks f = ikm ks g := List.map_congr_left fun a ha => by rw [h a ha]
theorem ikm_len (ks : List Int) (f : Int → V) : (ikm ks f).length = ks.length := by unfold ikm; rw [List.length_map]
theorem dd_len (s : List Int) : (dd s).length ≤ s.length := by
  have : ∀ r : List Int, ∀ t : List Int, t.reverse = r → (dd t).length ≤ t.length := by
    intro r
    induction r with
    | nil =>
      intro t e
      rw [List.reverse_eq_nil_iff.mp e]
      exact Nat.le_refl _
    | cons x r ih =>
      intro t e
      have e2 : t = r.reverse ++ [x] := by rw [← List.reverse_reverse t, e, List.reverse_cons]
      subst e2
      have := ih r.reverse (List.reverse_reverse r)
      rw [dd_snoc, List.length_append, List.length_singleton]
      split
      · omega
      · rw [List.length_append, List.length_singleton]
        omega
  exact this s.reverse s rfl
theorem dd_mem (s : List Int) : ∀ x, x ∈ dd s ↔ x ∈ s := by
  have : ∀ r : List Int, ∀ t : List Int, t.reverse = r → ∀ x, x ∈ dd t ↔ x ∈ t := by
    intro r
    induction r with
    | nil =>
      intro t e
      rw [List.reverse_eq_nil_iff.mp e]
      intro x
      exact Iff.rfl
    | cons y r ih =>
      intro t e
      have e2 : t = r.reverse ++ [y] := by rw [← List.reverse_reverse t, e, List.reverse_cons]
      subst e2
      intro x
      have := ih r.reverse (List.reverse_reverse r)
      rw [dd_snoc]
      split
      · rename_i h
        rw [this x, List.mem_append, List.mem_singleton]
        exact ⟨.inl, fun z => z.elim id fun z => by rw [z]; exact (this y).mp h⟩
      · rw [List.mem_append, List.mem_append, this x]
  exact this s.reverse s rfl
def cntF (s : List Int) (n : Int) : V := .int ((s.countP fun z => z == n : Nat) : Int)
/-- one more of x -/
theorem cnt_step (t : List Int) (x : Int) : putK (ikm (dd t) (cntF t)) (Sum.inl x) (.int (((t.countP fun z => z == x : Nat) : Int) + 1)) = ikm (dd (t ++ [x])) (cntF (t ++ [x])) := by
  rw [ikm_put, ← dd_snoc]
  refine ikm_cong fun n _ => ?_
  unfold cntF
  rw [List.countP_append]
  by_cases e : n = x
  · rw [if_pos e, e]
    simp
  · rw [if_neg e]
    have : ([x].countP fun z => z == n) = 0 := by
      rw [List.countP_cons]
      simp
      exact fun z => e z.symm
    rw [this, Nat.add_zero]
/-- all of x at once -/
theorem all_step (s t : List Int) (x : Int) : putK (ikm (dd t) (cntF s)) (Sum.inl x) (cntF s x) = ikm (dd (t ++ [x])) (cntF s) := by
  rw [ikm_put, ← dd_snoc]
  refine ikm_cong fun n _ => ?_
  by_cases e : n = x
  · rw [if_pos e, e]
  · rw [if_neg e]
theorem cnt_none {t : List Int} {x : Int} (h : x ∉ dd t) : (t.countP fun z => z == x) = 0 := by
  rw [List.countP_eq_zero]
  intro a ha z
  have : a = x := by simpa using z
  exact h ((dd_mem t x).mpr (this ▸ ha))
theorem sorted_one {a b : List Int} (p : a.Perm b) (ha : a.Pairwise (· ≤ ·)) (hb : b.Pairwise (· ≤ ·)) : a = b := List.Perm.eq_of_pairwise (fun x y _ _ h1 h2 => Int.le_antisymm h1 h2) ha hb p
end Far

namespace Far
open PySem PySem.Spec PyProof.Rows L2
theorem kv_vals : ∀ {kvs : List (Key × V)} {vs : List (Key × Value)}, KV kvs vs → Vals (kvs.map (·.2)) (vs.map (·.2))
  | [], [], .nil => .nil
  | _ :: _, _ :: _, .cons h t => .cons h.2 (kv_vals t)
/-- list(d.values()) -/
def tListVals (te : TE) : TE := fun σ H Q => te σ H fun x H1 => ∃ (d : Addr) (kvs : List (Key × V)), x = .ref d ∧ H1 d = some (.dK kvs) ∧ ∀ p, H1 p = none → Q (.ref p) (upd H1 p (.lst (kvs.map (·.2))))
theorem pe_listVals {X : Cx} {e : Expr} {te : TE} {p pos apos cpos : Pos} (hc : X.calm = true) (he : PE X e te) (hg : Gl X "list") (hm : X.mg "list" = none) (hv : bootBuiltins "list" = some (.type "list"))
    (hbase : attributeBase e "values" X.env (eval e X.env) = eval e X.env := by rfl) (hline : (apos.endLine == cpos.line) = true := by rfl)
    (hs : starEach [.Call (.Attribute e "values" apos) [] [] cpos] X.env = (false, eval (.Call (.Attribute e "values" apos) [] [] cpos) X.env) :: starEach [] X.env := by rfl) :
    PE X (.Call (.Name "list" p) [.Call (.Attribute e "values" apos) [] [] cpos] [] pos) (tListVals te) := by
  refine ⟨fun pins s σ H Q I hq => ?_⟩
  refine wpAny_Call_Name_kw (ld_blt I hg hm hv ?_)
  refine PyProof.Rows.callWith_type1 ?_ hs rfl
  rw [hs]
  show wpAny _ _ (spliced ((false, eval (.Call (.Attribute e "values" apos) [] [] cpos) X.env) :: backTo pos (starEach [] X.env))) _ _ s
  refine Calls.spliced_cons ?_
  refine wpAny_Call_method (T := "dict") (id := "dict.values") hbase rfl hline F.plainAttrs_dict F.slot_dict_values F.type_dict_values (thn (he.run pins s σ H _ I hq) fun u s1 ⟨x, H1, I1, rx, d, kvs, ex, hd, q⟩ => ?_)
  subst ex
  obtain rfl : u = Value.ref d := rx
  obtain ⟨hz, hs0, vs, kv, hdo⟩ := I1.hok d _ hd
  obtain ⟨ep, hat⟩ := hdo.dictAt
  have lk : kvs.length = vs.length := Paired.length kv
  have I2 : Inv X pins σ H1 { s1 with heap := s1.heap.push { cls := .type "dict_values", data := .fields #[.ref d] } } := I1.kept (t' := s1.toks) fun b ob q => Heap.get?_push_of_some _ q
  refine ⟨hdo.typeIs, hdo.mapOf.noDict, ?_⟩
  show wpAny _ _ (callWith cpos (.builtin "dict.values") [.ref d] [] []) _ X.xe s1
  refine method_meetsIn F.slot_dict_values F.entry_dict_values rfl (PySem.evalArgs_none ⟨rfl, hdo.typeIs, F.args_dict_values_1 _, _, meets_dict_values (mixKind X.prog X.w) d hs0, ⟨vs, hdo⟩, ?_⟩)
  refine Calls.spliced_nil ?_
  refine PySem.W.kdl_call (PySem.W.kdl_values (knd := mixKind X.prog X.w) (r := s1.heap.objs.size) (d := d) (kvs := vs) (ep := ep)) (I1.ok.hd hc) ⟨⟨_, Heap.get?_push_size _ rfl, rfl, rfl⟩, hat.push _⟩ (by omega) fun h' tk acc c hk hS hacc => ?_
  have ev : acc.toList = vs.map (·.2) := PySem.W.kdl_vals_eq acc.toList (by rw [Array.length_toList]; exact hacc.1) fun j v e => hacc.2 j v (by rw [← Array.getElem?_toList]; exact e)
  exact ⟨.ref _, _, I2.laid (t' := tk) hk (Nat.le_refl _) (show ObjOk X.prog X.w _ _ _ (.lst (kvs.map (·.2))) from ⟨by rw [List.length_map]; exact hz, acc.toList, c, by rw [ev]; exact kv_vals kv, by rw [Array.toArray_toList]; exact hS⟩), rfl, q _ (I2.hok.fresh (Nat.le_refl _))⟩
end Far

namespace Far
open PySem PySem.Spec PyProof.Rows L2
open C8 (pss_cut tCut)
open SX (S)
theorem SqL.same {K : PySem.W.Frag} {H H' : Hp} {a : Addr} {xs : List V} (h : SqL K H a xs) (s : Same H H') : SqL K H' a xs := by
  rcases h with (h | ⟨o, h⟩) | h
  · exact .inl (.inl (s _ _ h))
  · exact .inl (.inr ⟨o, s _ _ h⟩)
  · exact .inr h
theorem fine_one : Fine [[97]] [] := ⟨⟨[[97]], [], .one _, .refl _, .refl _⟩, fun l hl => by rw [List.mem_singleton.mp hl]; exact ⟨by decide, by decide, by decide⟩, by decide⟩
theorem fine_ba {k : Int} (h1 : 1 ≤ k) (h2 : k ≤ 1000000) : Fine [[98], [97]] [([97], [98], k)] := by
  refine ⟨⟨[[97], [98]], [([97], [98], k)], ?_, .swap _ _ _, .refl _⟩, fun l hl => ?_, by decide⟩
  · exact Grown.leaf (os := [[97]]) (es := []) (a := [97]) (b := [98]) (k := k) (.one _) (by decide) (by decide) (.inl rfl) h1 h2
  · rcases List.mem_cons.mp hl with z | z
    · rw [z]
      exact ⟨by decide, by decide, by decide⟩
    · rw [List.mem_singleton.mp z]
      exact ⟨by decide, by decide, by decide⟩
theorem fine_ab {k : Int} (h1 : 1 ≤ k) (h2 : k ≤ 1000000) : Fine [[97], [98]] [([98], [97], k)] := by
  refine ⟨⟨[[97], [98]], [([98], [97], k)], ?_, .refl _, .refl _⟩, fun l hl => ?_, by decide⟩
  · exact Grown.leaf (os := [[97]]) (es := []) (a := [97]) (b := [98]) (k := k) (.one _) (by decide) (by decide) (.inr rfl) h1 h2
  · rcases List.mem_cons.mp hl with z | z
    · rw [z]
      exact ⟨by decide, by decide, by decide⟩
    · rw [List.mem_singleton.mp z]
      exact ⟨by decide, by decide, by decide⟩
theorem d_one : dist [] [97] [97] = 0 := (fine_one.tree.dist_self _).1
theorem d_ba {k : Int} (h1 : 1 ≤ k) (h2 : k ≤ 1000000) : dist [([97], [98], k)] [98] [97] = k ∧ dist [([97], [98], k)] [97] [98] = k ∧ dist [([97], [98], k)] [97] [97] = 0 ∧ dist [([97], [98], k)] [98] [98] = 0 := by
  have F := (fine_ba h1 h2).tree
  have w1 : Way [([97], [98], k)] ([98] : Nm) [97] ([[98]] ++ [[97]]) (0 + k) := .snoc .nil (.inr (by simp)) (by decide)
  have w2 : Way [([97], [98], k)] ([97] : Nm) [98] ([[97]] ++ [[98]]) (0 + k) := .snoc .nil (.inl (by simp)) (by decide)
  exact ⟨by rw [(F.is_way w1).2]; omega, by rw [(F.is_way w2).2]; omega, (F.dist_self _).1, (F.dist_self _).1⟩
theorem d_ab {k : Int} (h1 : 1 ≤ k) (h2 : k ≤ 1000000) : dist [([98], [97], k)] [98] [97] = k ∧ dist [([98], [97], k)] [97] [98] = k := by
  have F := (fine_ab h1 h2).tree
  have w1 : Way [([98], [97], k)] ([98] : Nm) [97] ([[98]] ++ [[97]]) (0 + k) := .snoc .nil (.inl (by simp)) (by decide)
  have w2 : Way [([98], [97], k)] ([97] : Nm) [98] ([[97]] ++ [[98]]) (0 + k) := .snoc .nil (.inr (by simp)) (by decide)
  exact ⟨by rw [(F.is_way w1).2]; omega, by rw [(F.is_way w2).2]; omega⟩
end Far

namespace Far
open PySem PySem.Spec PyProof.Rows L2
open SX (S)
/-! ### all pairs, place by place, and their sum -/
noncomputable def prsR (ts : List Tie) : List Nm → List Tri
  | [] => []
  | a :: r => r.map (fun y => (dist ts a y, a, y)) ++ prsR ts r
theorem pairsOf_rec (ts : List Tie) : ∀ pl : List Nm, pairsOf pl ts = prsR ts pl
  | [] => rfl
  | a :: r => by
    have ih := pairsOf_rec ts r
    show prs (a :: r) ts (r.length + 1) = r.map (fun y => (dist ts a y, a, y)) ++ prsR ts r
    rw [← ih]
    unfold pairsOf prs
    rw [List.range_succ_eq_map, List.flatMap_cons, List.flatMap_map]
    rfl
theorem sum_add {α : Type} (f g : α → Int) : ∀ l : List α, (l.map fun x => f x + g x).sum = (l.map f).sum + (l.map g).sum
  | [] => rfl
  | a :: r => by
    have ih := sum_add f g r
    simp only [List.map_cons, List.sum_cons]
    omega
/-- what the ways from u come to -/
noncomputable def sumOf (pl : List Nm) (ts : List Tie) (u : Nm) : Int := (pl.map fun x => dist ts u x).sum
/-- what all ways of two places come to -/
noncomputable def totOf (pl : List Nm) (ts : List Tie) : Int := ((pairsOf pl ts).map (·.1)).sum
theorem tot_twice {ts : List Tie} {d : Nm → Nm → Int} (hd : dist ts = d) : ∀ pl : List Nm, (∀ u ∈ pl, d u u = 0) → (∀ u ∈ pl, ∀ v ∈ pl, d u v = d v u) → (pl.map fun u => (pl.map fun x => d u x).sum).sum = 2 * ((prsR ts pl).map (·.1)).sum
  | [], _, _ => rfl
  | a :: r, h0, hs => by
    have ih := tot_twice hd r (fun u hu => h0 u (List.mem_cons_of_mem _ hu)) fun u hu v hv => hs u (List.mem_cons_of_mem _ hu) v (List.mem_cons_of_mem _ hv)
    have e0 := h0 a (List.mem_cons_self ..)
    have e1 : (r.map fun u => ((a :: r).map fun x => d u x).sum).sum = (r.map fun u => d u a).sum + (r.map fun u => (r.map fun x => d u x).sum).sum := by
      simp only [List.map_cons, List.sum_cons]
      exact sum_add (fun u => d u a) (fun u => (r.map fun x => d u x).sum) r
    have e2 : (r.map fun u => d u a) = r.map fun u => d a u := List.map_congr_left fun u hu => hs u (List.mem_cons_of_mem _ hu) a (List.mem_cons_self ..)
    have e3 : ((prsR ts (a :: r)).map (·.1)).sum = (r.map fun u => d a u).sum + ((prsR ts r).map (·.1)).sum := by
      show ((r.map (fun y => (dist ts a y, a, y)) ++ prsR ts r).map (·.1)).sum = _
      rw [List.map_append, List.sum_append, List.map_map, hd]
      rfl
    rw [List.map_cons, List.sum_cons, e1, e2, ih, e3, List.map_cons, List.sum_cons, e0]
    omega
theorem tot_sums {pl : List Nm} {ts : List Tie} (F : IsTree pl ts) : (pl.map (sumOf pl ts)).sum = 2 * totOf pl ts := by
  unfold totOf
  rw [pairsOf_rec]
  exact tot_twice rfl pl (fun u _ => (F.dist_self u).1) fun u hu v hv => (F.dist_symm hu hv).1
end Far

namespace Far
open PySem PySem.Spec PyProof.Rows L2
open C8 (pss_cut tCut)
open SX (S)
open RZ (ItzT iZipA pi_zipA)
structure TxtM15 (mg : Str → Option Value) : Prop where
  tuple : mg "tuple" = none
  sum : mg "sum" = none
  min : mg "min" = none
  zip : mg "zip" = none
  range : mg "range" = none
noncomputable def leastN (pl : List Nm) (ts : List Tie) : Int := mnG (pl.map (sumOf pl ts))
noncomputable def sumsD (pl : List Nm) (ts : List Tie) : PyData := .tuple ((pl.map (sumOf pl ts)).map .int)
noncomputable def leastD (pl : List Nm) (ts : List Tie) : PyData := thoseD pl (sumOf pl ts) (leastN pl ts)
abbrev s_sums_from : Stmt := topS 26
abbrev N_sums_from : List Str := ["tree", "place"]
theorem sc_sums_from : FnScope N_sums_from ["tree"] (defScope s_sums_from) := ⟨rfl, rfl, rfl, by decide +kernel, rfl, by decide +kernel, by decide +kernel⟩
abbrev s_least_sums : Stmt := topS 27
abbrev N_least_sums : List Str := ["tree", "sums", "least", "place", "found"]
theorem sc_least_sums : FnScope N_least_sums ["tree"] (defScope s_least_sums) := ⟨rfl, rfl, rfl, by decide +kernel, rfl, by decide +kernel, by decide +kernel⟩
abbrev s_total_of : Stmt := topS 28
abbrev N_total_of : List Str := ["tree", "pair"]
theorem sc_total_of : FnScope N_total_of ["tree"] (defScope s_total_of) := ⟨rfl, rfl, rfl, by decide +kernel, rfl, by decide +kernel, by decide +kernel⟩
section
variable {P : Program} {w : World} {K : PySem.W.Frag} {mg : Str → Option Value} {base : Heap}
def spSums : Sp := fun vs H Q _ => ∃ (v : V) (pl : List Nm) (ts : List Tie), vs = [v] ∧ Dt H v (treeD pl ts) ∧ Fine pl ts ∧ ∀ (H' : Hp) (q : Addr), Same H H' → H q = none → H' q = some (.tup ((pl.map (sumOf pl ts)).map V.int)) → Q (.ref q) H'
def spLeast : Sp := fun vs H Q _ => ∃ (v : V) (pl : List Nm) (ts : List Tie), vs = [v] ∧ Dt H v (treeD pl ts) ∧ Fine pl ts ∧ ∀ (H' : Hp) (r : V), Same H H' → Dt H' r (leastD pl ts) → Q r H'
def spTotal : Sp := fun vs H Q _ => ∃ (v : V) (pl : List Nm) (ts : List Tie), vs = [v] ∧ Dt H v (treeD pl ts) ∧ Fine pl ts ∧ ∀ H' : Hp, Same H H' → Q (.int (totOf pl ts)) H'
theorem ok_sums {f : Addr} {fd : FuncData} (F : Fun K "sums_from" "sums_from" s_sums_from f fd) (T : TxtM15 mg) (Clengths_from : Cal P w K mg base 3 "lengths_from" spLens) : FnOk P w K mg base CX0 4 f fd ["tree"] spSums := by
  refine F.ok sc_sums_from (fun vs H Q E h => ?_) (fun cdv A outer s H vs Q E hr h => ?_)
  · obtain ⟨v, pl, ts, rfl, _⟩ := h
    rfl
  · obtain ⟨v, pl, ts, rfl, hd, fine, q⟩ := h
    obtain ⟨t, a, b, vs, rfl, ht, ha, hb, hA⟩ := dt_tree hd
    have pl1 := fine.len
    refine ⟨_, (pss_one (ps_ret (pe_tupleOf (by rfl) T.tuple (pe_lc (own := [("place", 1)]) (g := gName 1) (tt := tYes) rfl sc_sums_from.nd (pi_tup (pe_ix ix_tup (pv 0) pe_int (fun _ _ => rfl))) (blkOk_by (N := N_sums_from) (sc := defScope s_sums_from) (by decide +kernel)) (fun _ _ _ _ _ => pg_name (i := 1) sc_sums_from.nd rfl (Or.inl rfl)) (fun _ _ _ _ _ => pts_nil) (fun _ _ _ _ _ => (pe_callB (cr_sumT (K := K) rfl) (by rfl) T.sum bt_sum (pa_cons (pe_c Clengths_from hr (by decide) rfl (pa_cons (pv 0) (pa_cons (pv 1) pa_nil))) pa_nil))))))), ?_⟩
    refine ⟨_, rfl, t, _, 0, .ref a, rfl, rfl, SqT.of ht, atI_nat (j := 0) rfl, a, rfl, ⟨_, ha.sq⟩, fun D nD => ?_⟩
    refine lc_tup (K := K) (a := a) (xs := (pl.map S).map V.str) (fun i H' => Same H H' ∧ H' D = some (.lst (((pl.take i).map (sumOf pl ts)).map V.int))) ⟨same_new (Same.refl H) nD, upd_same⟩ (fun i H' _ hP => (ha.same hP.1).sq) (fun i v H' hi hP => ?_) (fun H' hP => ?_)
    · obtain ⟨SM, hD⟩ := hP
      obtain ⟨x, ex, hx, rfl, et⟩ := at_name hi
      refine ⟨rfl, _, rfl, _, rfl, .ref t, pl, ts, x, rfl, Dt.keep (TK.of SM) hd, fine, hx, fun H2 L S2 nL hL => ?_⟩
      rw [map_int] at hL
      refine ⟨L, _, rfl, SqT.of hL, ?_⟩
      refine ⟨_, S2 _ _ hD, ?_, same_put (SM.trans S2) nD, ?_⟩
      · rw [List.length_map, List.length_map, List.length_take]
        exact sz_lt (by omega)
      · rw [upd_same, et, List.map_append, List.map_append]
        rfl
    · obtain ⟨SM, hD⟩ := hP
      rw [List.length_map, List.length_map, List.take_length] at hD
      exact .inl ⟨D, _, rfl, SqL.of hD, fun q1 nq1 => q _ q1 (same_new SM nq1) (SM.free nq1) upd_same⟩
theorem ok_least_sums {f : Addr} {fd : FuncData} (F : Fun K "least_sums" "least_sums" s_least_sums f fd) (T : TxtM15 mg) (Csums_from : Cal P w K mg base 4 "sums_from" spSums) : FnOk P w K mg base CX0 5 f fd ["tree"] spLeast := by
  refine F.ok sc_least_sums (fun vs H Q E h => ?_) (fun cdv A outer s H vs Q E hr h => ?_)
  · obtain ⟨v, pl, ts, rfl, _⟩ := h
    rfl
  · obtain ⟨v, pl, ts, rfl, hd, fine, q⟩ := h
    obtain ⟨t, a, b, vs, rfl, ht, ha, hb, hA⟩ := dt_tree hd
    have pl1 := fine.len
    have pl0 : 0 < (pl.map (sumOf pl ts)).length := by
      rw [List.length_map]
      exact List.length_pos_iff.mpr fine.ne
    refine ⟨_, (pss_cons (ps_set (i := 1) sc_least_sums.nd rfl (.inl rfl) (pe_c Csums_from hr (by decide) rfl (pa_cons (pv 0) pa_nil)))
      (pss_cons (ps_set (i := 2) sc_least_sums.nd rfl (.inr rfl) (pe_callB (cr_minT (K := K) rfl) (by rfl) T.min bt_min (pa_cons (pv 1) pa_nil)))
      (pss_one (ps_ret (pe_tupleOf (by rfl) T.tuple (pe_lc (own := [("place", 3), ("found", 4)]) (g := gTup K 2 (gCons (gName 3) (gCons (gName 4) gNil)))  rfl sc_least_sums.nd (pi_zipA (by rfl) T.zip (pa_cons (pe_ix ix_tup (pv 0) pe_int (fun _ _ => rfl)) (pa_cons (pv 1) pa_nil))) (blkOk_by (N := N_least_sums) (sc := defScope s_least_sums) (by decide +kernel)) (fun _ _ _ _ _ => (pg_tup rfl (pgs_cons (pg_name (i := 3) sc_least_sums.nd rfl (.inl rfl)) (pgs_cons (pg_name (i := 4) sc_least_sums.nd rfl (.inl rfl)) pgs_nil)))) (fun _ _ _ _ _ => pts_one (pt_cmpR op_eq (pv 4) (pv 2) (nomark _))) (fun _ _ _ _ _ => (pv 3)))))))), ?_⟩
    refine ⟨_, rfl, .ref t, pl, ts, rfl, hd, fine, fun H1 L S1 nL hL => ?_⟩
    refine ⟨_, rfl, L, _, rfl, SqT.of hL, pl0, fun m hm hle => ?_⟩
    have em := mnG_is hm hle
    subst em
    refine ⟨_, rfl, t, _, 0, .ref a, rfl, rfl, SqT.of (S1 _ _ ht), atI_nat (j := 0) rfl, _, rfl, a, L, _, _, rfl, .inr ⟨(ha.same S1).sq, SqT.of hL, fun D nD => ?_⟩⟩
    refine zip_it (xs := (pl.map S).map V.str) (ys := (pl.map (sumOf pl ts)).map V.int) (by simp) (fun i H' => Same H1 H' ∧ H' D = some (.lst ((((pl.take i).filter fun x => sumOf pl ts x == leastN pl ts).map S).map V.str))) ⟨same_new (Same.refl H1) nD, upd_same⟩ (fun i H' hP => ⟨(ha.same (S1.trans hP.1)).sq, SqT.of (hP.1 _ _ hL)⟩) (fun i x y H' T hx hy hP nT => ?_) (fun H' hP => ?_)
    · obtain ⟨SM, hD⟩ := hP
      obtain ⟨l, ex, hl, rfl, et⟩ := at_name hx
      rw [List.getElem?_map, List.getElem?_map, ex] at hy
      cases hy
      have et := take_snoc_filter (f := sumOf pl ts) (n := leastN pl ts) et
      have DT : D ≠ T := ne_of_none hD nT
      have hD2 : (upd H' T (.tup [.str (S l), .int (sumOf pl ts l)])) D = some (.lst ((((pl.take i).filter fun x => sumOf pl ts x == leastN pl ts).map S).map V.str)) := by
        rw [upd_ne DT]
        exact hD
      refine ⟨T, _, rfl, SqT.of upd_same, rfl, _, _, rfl, _, _, rfl, rfl, rfl, _, rfl, _, rfl, rfl, _, rfl, ?_⟩
      refine ite2 (fun z => ?_) (fun z => ?_)
      · have z : sumOf pl ts l = leastN pl ts := V.int.inj (of_decide_eq_true z)
        rw [if_pos z] at et
        refine ⟨_, rfl, _, hD2, ?_, same_put (same_new SM nT) nD, ?_⟩
        · rw [List.length_map, List.length_map]
          refine sz_lt ?_
          have := List.length_filter_le (fun x => sumOf pl ts x == leastN pl ts) (pl.take i)
          rw [List.length_take] at this
          omega
        · rw [upd_same, et, List.map_append, List.map_append]
          rfl
      · have z : sumOf pl ts l ≠ leastN pl ts := fun y => z (by rw [show mnG (pl.map (sumOf pl ts)) = leastN pl ts from rfl, y]; exact decide_eq_true rfl)
        rw [if_neg z, List.append_nil] at et
        exact ⟨same_new SM nT, by rw [et]; exact hD2⟩
    · obtain ⟨SM, hD⟩ := hP
      rw [List.length_map, List.length_map, List.take_length] at hD
      refine .inl ⟨D, _, rfl, SqL.of hD, fun q1 nq1 => ?_⟩
      exact q _ _ (same_new (S1.trans SM) nq1) (.tup upd_same (dts_S _ _))
theorem ok_total {f : Addr} {fd : FuncData} (F : Fun K "total_of" "total_of" s_total_of f fd) (T : TxtM15 mg) (Cpairs_in_order : Cal P w K mg base 4 "pairs_in_order" spPio) : FnOk P w K mg base CX0 5 f fd ["tree"] spTotal := by
  refine F.ok sc_total_of (fun vs H Q E h => ?_) (fun cdv A outer s H vs Q E hr h => ?_)
  · obtain ⟨v, pl, ts, rfl, _⟩ := h
    rfl
  · obtain ⟨v, pl, ts, rfl, hd, fine, q⟩ := h
    have p1000 := fine.len
    have pl1 : (pairsOf pl ts).length ≤ 1000 * 1000 := Nat.le_trans (prs_len pl ts _) (Nat.mul_le_mul p1000 p1000)
    refine ⟨_, (pss_one (ps_ret (pe_callB (cr_sum rfl) (by rfl) T.sum bt_sum (pa_cons (pe_lc (own := [("pair", 1)]) (g := gName 1) (tt := tYes) rfl sc_total_of.nd (pi_list (pe_c Cpairs_in_order hr (by decide) rfl (pa_cons (pv 0) pa_nil))) (blkOk_by (N := N_total_of) (sc := defScope s_total_of) (by decide +kernel)) (fun _ _ _ _ _ => pg_name (i := 1) sc_total_of.nd rfl (Or.inl rfl)) (fun _ _ _ _ _ => pts_nil) (fun _ _ _ _ _ => (pe_ix (ixt (K := K)) (pv 1) pe_int (fun _ _ => rfl)))) pa_nil)))), ?_⟩
    refine ⟨_, rfl, v, pl, ts, rfl, hd, fine, fun H1 D ws S1 nD hD hW => ?_⟩
    have wl := DtAll.len hW
    rw [List.length_map] at wl
    refine ⟨D, rfl, ⟨_, SqL.of hD⟩, fun C nC => ?_⟩
    refine lc_list (K := K) (a := D) (xs := ws) (fun i H' => Same H1 H' ∧ H' C = some (.lst ((((pairsOf pl ts).take i).map (·.1)).map V.int))) ⟨same_new (Same.refl H1) nC, upd_same⟩ (fun i H' _ hP => SqL.of (hP.1 _ _ hD)) (fun i v H' hi hP => ?_) (fun H' hP => ?_)
    · obtain ⟨sm, hC⟩ := hP
      obtain ⟨d, hd, hx⟩ := DtAll.get hW hi
      rw [List.getElem?_map] at hd
      cases ee : (pairsOf pl ts)[i]? with
      | none => rw [ee] at hd; cases hd
      | some x =>
        rw [ee] at hd
        have ed : d = triD x := (Option.some.inj hd).symm
        subst ed
        obtain ⟨u2, rfl, hu2⟩ := dt_tri hx
        refine ⟨rfl, _, rfl, u2, _, 0, .int x.1, rfl, rfl, SqT.of (sm _ _ hu2), rfl, _, hC, ?_, same_put sm nC, ?_⟩
        · rw [List.length_map, List.length_map, List.length_take]
          exact szM (by omega)
        · rw [upd_same, List.take_add_one, ee, List.map_append, List.map_append]
          rfl
    · obtain ⟨sm, hC⟩ := hP
      rw [wl, List.take_length] at hC
      refine ⟨C, _, rfl, SqL.of hC, ?_⟩
      exact q _ (S1.trans sm)
end
end Far

namespace Far
open PySem PySem.Spec PyProof.Rows L2
open C8 (pss_cut tCut)
open SX (S)
structure TxtM16 (mg : Str → Option Value) : Prop where
  isinstance : mg "isinstance" = none
  dict : mg "dict" = none
  list : mg "list" = none
  bool : mg "bool" = none
  int : mg "int" = none
  len : mg "len" = none
  sorted : mg "sorted" = none
  enumerate : mg "enumerate" = none
noncomputable def lensOf (pl : List Nm) (ts : List Tie) : List Int := (pairsOf pl ts).map (·.1)
theorem lens_len {pl : List Nm} {ts : List Tie} (F : Fine pl ts) : (lensOf pl ts).length ≤ 1000000 := by
  unfold lensOf
  rw [List.length_map]
  exact Nat.le_trans (prs_len pl ts _) (Nat.mul_le_mul F.len F.len)
theorem countV_int (ls : List Int) (n : Int) : (ls.map V.int).countP (fun z => eqV z (.int n)) = ls.countP fun z => z == n := by
  rw [List.countP_map]
  rfl
theorem flat_ints (ls : List Int) : (ls.map V.int).all flatV = true := by
  rw [List.all_eq_true]
  intro v hv
  obtain ⟨n, _, rfl⟩ := List.mem_map.mp hv
  rfl
theorem at_int {ls : List Int} {i : Nat} {v : V} (hi : (ls.map V.int)[i]? = some v) : ∃ n, ls[i]? = some n ∧ v = .int n ∧ ls.take (i + 1) = ls.take i ++ [n] := by
  rw [List.getElem?_map] at hi
  cases el : ls[i]? with
  | none => rw [el] at hi; cases hi
  | some x => rw [el] at hi; exact ⟨x, rfl, (Option.some.inj hi).symm, by rw [List.take_add_one, el]; rfl⟩
abbrev s_pairs_by_length : Stmt := topS 29
abbrev N_pairs_by_length : List Str := ["tree", "told", "length", "pair"]
theorem sc_pairs_by_length : FnScope N_pairs_by_length ["tree"] (defScope s_pairs_by_length) := ⟨rfl, rfl, rfl, by decide +kernel, rfl, by decide +kernel, by decide +kernel⟩
section
variable {P : Program} {w : World} {K : PySem.W.Frag} {mg : Str → Option Value} {base : Heap}
/-- a new dict at D: how many of each of the lengths, rising -/
def spByLen : Sp := fun vs H Q _ => ∃ (v : V) (pl : List Nm) (ts : List Tie), vs = [v] ∧ Dt H v (treeD pl ts) ∧ Fine pl ts ∧ ∀ (H' : Hp) (D : Addr) (s : List Int), Same H H' → H D = none → s.Perm (lensOf pl ts) → s.Pairwise (· ≤ ·) → H' D = some (.dK (ikm (dd s) (cntF s))) → Q (.ref D) H'
theorem ok_by_len {f : Addr} {fd : FuncData} (F : Fun K "pairs_by_length" "pairs_by_length" s_pairs_by_length f fd) (T : TxtM16 mg) (Cpairs_in_order : Cal P w K mg base 4 "pairs_in_order" spPio) : FnOk P w K mg base CX0 5 f fd ["tree"] spByLen := by
  refine F.ok sc_pairs_by_length (fun vs H Q E h => ?_) (fun cdv A outer s H vs Q E hr h => ?_)
  · obtain ⟨v, pl, ts, rfl, _⟩ := h
    rfl
  · obtain ⟨v, pl, ts, rfl, hd, fine, q⟩ := h
    have ll := lens_len fine
    refine ⟨_, (pss_cons (ps_set (i := 1) sc_pairs_by_length.nd rfl (.inl rfl) pe_dnewK)
      (pss_cut (ps_for PassesOwn.never rfl (pi_list (pe_callB cr_sortedI (by rfl) T.sorted bt_sorted (pa_cons (pe_lc (own := [("pair", 3)]) (g := gName 3) (tt := tYes) rfl sc_pairs_by_length.nd (pi_list (pe_c Cpairs_in_order hr (by decide) rfl (pa_cons (pv 0) pa_nil))) (blkOk_by (N := N_pairs_by_length) (sc := defScope s_pairs_by_length) (by decide +kernel)) (fun _ _ _ _ _ => pg_name (i := 3) sc_pairs_by_length.nd rfl (Or.inl rfl)) (fun _ _ _ _ _ => pts_nil) (fun _ _ _ _ _ => (pe_ix (ixt (K := K)) (pv 3) pe_int (fun _ _ => rfl)))) pa_nil))) (pg_name (i := 2) sc_pairs_by_length.nd rfl (.inl rfl))
        (pss_one (ps_dput (hu_of hr) (pv 1) (pv 2) (pe_op op_add (pe_dget2 (hu_of hr) (pv 1) (pv 2) pe_int ⟨rfl, rfl, rfl, rfl⟩) pe_int) rfl)))
      (pss_one (ps_ret (pv 1))))), ?_⟩
    refine fun B nB => ?_
    have S0 := same_new (o := .dK []) (Same.refl H) nB
    have hB0 : (upd H B (.dK [])) B = some (.dK (ikm (dd []) (cntF []))) := upd_same
    generalize upd H B (.dK []) = H0 at S0 hB0
    refine ⟨fun σ' H' => ∃ (x2 : Option V) (s : List Int), σ' = [some v, some (.ref B), x2, none] ∧ Same H H' ∧ s.Perm (lensOf pl ts) ∧ s.Pairwise (· ≤ ·) ∧ H' B = some (.dK (ikm (dd s) (cntF s))), ?_, fun σ' H' hM => ?_⟩
    · refine ⟨_, rfl, v, pl, ts, rfl, Dt.keep (TK.of S0) hd, fine, fun H1 D ws S1 nD hD hW => ?_⟩
      have wl := DtAll.len hW
      rw [List.length_map] at wl
      have hB1 := S1 _ _ hB0
      refine ⟨D, rfl, ⟨_, SqL.of hD⟩, fun C nC => ?_⟩
      refine lc_list (K := K) (a := D) (xs := ws) (fun i H' => Same H1 H' ∧ H' C = some (.lst (((lensOf pl ts).take i).map V.int))) ⟨same_new (Same.refl H1) nC, upd_same⟩ (fun i H' _ hP => SqL.of (hP.1 _ _ hD)) (fun i v H' hi hP => ?_) (fun H' hP => ?_)
      · obtain ⟨sm, hC⟩ := hP
        obtain ⟨d, hd, hx⟩ := DtAll.get hW hi
        rw [List.getElem?_map] at hd
        cases ee : (pairsOf pl ts)[i]? with
        | none => rw [ee] at hd; cases hd
        | some x =>
          rw [ee] at hd
          have ed : d = triD x := (Option.some.inj hd).symm
          subst ed
          obtain ⟨u2, rfl, hu2⟩ := dt_tri hx
          have el : (lensOf pl ts)[i]? = some x.1 := by
            unfold lensOf
            rw [List.getElem?_map, ee]
            rfl
          refine ⟨rfl, _, rfl, u2, _, 0, .int x.1, rfl, rfl, SqT.of (sm _ _ hu2), rfl, _, hC, ?_, same_put sm nC, ?_⟩
          · rw [List.length_map, List.length_take]
            exact szM (by omega)
          · rw [upd_same, List.take_add_one, el, List.map_append]
            rfl
      · obtain ⟨sm, hC⟩ := hP
        have e1 : ws.length = (lensOf pl ts).length := by
          unfold lensOf
          rw [List.length_map, wl]
        rw [e1, List.take_length] at hC
        refine ⟨C, _, rfl, SqL.of hC, fun s p perm rise np => ?_⟩
        have S3 := same_new (o := .lst (s.map V.int)) ((S0.trans S1).trans sm) np
        have hB2 := sm _ _ hB1
        have hB3 : (upd H' p (.lst (s.map V.int))) B = some (.dK (ikm (dd []) (cntF []))) := by
          rw [upd_ne (ne_of_none hB2 np)]
          exact hB2
        have hp3 : (upd H' p (.lst (s.map V.int))) p = some (.lst (s.map V.int)) := upd_same
        have pB : p ≠ B := (ne_of_none hB2 np).symm
        generalize upd H' p (.lst (s.map V.int)) = H3 at S3 hB3 hp3
        have sl : s.length = (lensOf pl ts).length := perm.length_eq
        have pv : ∀ t : List Int, (t.take s.length) = t.take s.length := fun _ => rfl
        refine ⟨p, rfl, ⟨_, SqL.of hp3⟩, for_list (K := K) (a := p) (xs := s.map V.int) (fun i σ' H' => ∃ (x2 : Option V), σ' = [some v, some (.ref B), x2, none] ∧ Same H H' ∧ H' p = some (.lst (s.map V.int)) ∧ H' B = some (.dK (ikm (dd (s.take i)) (cntF (s.take i))))) ⟨none, rfl, S3, hp3, hB3⟩ (fun i σ' H' _ hP => by obtain ⟨_, _, _, h, _⟩ := hP; exact SqL.of h) (fun i v' σ' H' hi hP => ?_) (fun σ' H' hP => ?_)⟩
        · obtain ⟨x2, rfl, SM, hp, hB⟩ := hP
          obtain ⟨m, em, rfl, et⟩ := at_int hi
          have il : i < s.length := (List.getElem?_eq_some_iff.mp em).1
          have ev : (valV (ikm (dd (s.take i)) (cntF (s.take i))) (Sum.inl m)).getD (V.int 0) = .int (((s.take i).countP fun z => z == m : Nat) : Int) := by
            rw [ikm_val]
            by_cases c : m ∈ dd (s.take i)
            · rw [if_pos c]
              rfl
            · rw [if_neg c, cnt_none c]
              rfl
          refine ⟨_, rfl, B, rfl, .inl ⟨_, .inl hB⟩, _, rfl, _, DGet.k (k := Sum.inl m) hB, _, _, ev, rfl, _, rfl, _, rfl, B, _, rfl, .inl ⟨_, Sum.inl m, hB, rfl, ?_, rfl⟩, ?_⟩
          · rw [ikm_len]
            have := dd_len (s.take i)
            rw [List.length_take] at this
            exact szM (by omega)
          · rw [cnt_step, ← et]
            refine ⟨_, rfl, same_put SM nB, ?_, upd_same⟩
            rw [upd_ne pB]
            exact hp
        · obtain ⟨x2, rfl, SM, hp, hB⟩ := hP
          rw [List.length_map, List.take_length] at hB
          exact ⟨x2, s, rfl, SM, perm, rise, hB⟩
    · obtain ⟨x2, s, rfl, SM, perm, rise, hB⟩ := hM
      exact ⟨_, rfl, q _ B s SM nB perm rise hB⟩
end
end Far

namespace Far
open PySem PySem.Spec PyProof.Rows L2
open SX (S)
/-! ### the two sides of a tie -/
section
variable {pl : List Nm} {ts : List Tie} {a b : Nm} {k : Int}
theorem tie_two (h : IsTree pl ts) (ad : Adj ts a b k) : path ts a b = [a, b] ∧ dist ts a b = k := h.is_way (Way.two ad (h.adj_ne ad))
theorem adj_in (h : IsTree pl ts) (ad : Adj ts a b k) : a ∈ pl ∧ b ∈ pl ∧ 1 ≤ k := by
  rcases ad with z | z
  · exact ⟨(h.ties _ z).1, (h.ties _ z).2.1, (h.ties _ z).2.2.1⟩
  · exact ⟨(h.ties _ z).2.1, (h.ties _ z).1, (h.ties _ z).2.2.1⟩
theorem side (h : IsTree pl ts) (ad : Adj ts a b k) {p : Nm} (hp : p ∈ pl) : dist ts b p = dist ts a p + k ∨ dist ts a p = dist ts b p + k := by
  obtain ⟨ha, hb, _⟩ := adj_in h ad
  obtain ⟨pab, dab⟩ := tie_two h ad
  obtain ⟨m, A, B, C, d, e1, e2, e3, _⟩ := h.median ha hb hp
  rw [pab] at e3
  cases A with
  | nil =>
    have em : a = m := (List.cons.inj e3).1
    subst em
    have := (h.over hp hb ha).2.1.mpr (by rw [e2]; simp)
    rw [(h.dist_symm hp ha).1, (h.dist_symm hp hb).1] at this
    exact .inl (by omega)
  | cons x A =>
    have e4 := (List.cons.inj e3).2
    cases A with
    | nil =>
      have em : b = m := (List.cons.inj e4).1
      subst em
      have := (h.over ha hp hb).2.1.mpr (by rw [e1]; simp)
      exact .inr (by omega)
    | cons y A =>
      have := congrArg List.length e4
      simp at this
theorem cross1 (h : IsTree pl ts) (ad : Adj ts a b k) {u v : Nm} (hu : u ∈ pl) (hv : v ∈ pl) {A C : List Nm} (e : path ts u v = A ++ a :: b :: C) : dist ts b u = dist ts a u + k ∧ dist ts a v = dist ts b v + k := by
  obtain ⟨ha, hb, k1⟩ := adj_in h ad
  obtain ⟨pab, dab⟩ := tie_two h ad
  have w := h.the_way hu hv
  obtain ⟨L1, L2, _, w2, _⟩ := w.split e
  obtain ⟨L3, L4, w3, _, _⟩ := w.split (p1 := A ++ [a]) (p2 := C) (m := b) (by rw [e]; simp)
  have p3 := (h.is_way w3).1
  have p2 := (h.is_way w2).1
  have o1 := (h.over hu hb ha).2.1.mpr (by rw [p3]; simp)
  have o2 := (h.over ha hv hb).2.1.mpr (by rw [p2]; simp)
  rw [(h.dist_symm hu ha).1, (h.dist_symm hu hb).1] at o1
  exact ⟨by omega, by omega⟩
theorem cross2 (h : IsTree pl ts) (ad : Adj ts a b k) {u v : Nm} (hu : u ∈ pl) (hv : v ∈ pl) (h1 : dist ts b u = dist ts a u + k) (h2 : dist ts a v = dist ts b v + k) : ∃ A C, path ts u v = A ++ a :: b :: C := by
  obtain ⟨ha, hb, k1⟩ := adj_in h ad
  obtain ⟨pab, dab⟩ := tie_two h ad
  have wa := h.the_way hu ha
  have wb := h.the_way hb hv
  have dis : ∀ y ∈ path ts b v, y ∉ path ts u a := fun y hy hy2 => by
    have yp := wb.inside (fun e he => ⟨(h.ties e he).1, (h.ties e he).2.1⟩) hb y hy
    have o1 := (h.over hu ha yp).2.1.mpr hy2
    have o2 := (h.over hb hv yp).2.1.mpr hy
    have t1 := (h.over hu hb yp).1
    have t2 := (h.over ha hv yp).1
    have s1 := (h.dist_symm hu ha).1
    have s2 := (h.dist_symm hu hb).1
    have s3 := (h.dist_symm ha yp).1
    have s4 := (h.dist_symm hb yp).1
    omega
  have nb : b ∉ path ts u a := dis b (by
    obtain ⟨q, e⟩ := wb.first
    rw [e]
    exact List.mem_cons_self)
  have w1 : Way ts u b (path ts u a ++ [b]) (dist ts u a + k) := .snoc wa ad nb
  have w2 := w1.join wb dis
  have e := (h.is_way w2).1
  obtain ⟨q1, e1⟩ := wa.last
  obtain ⟨q2, e2⟩ := wb.first
  exact ⟨q1, q2, by rw [e, e1, e2]; simp⟩
theorem nb_iff {p : List Nm} {x y : Nm} : (∃ i : Nat, p[i]? = some x ∧ p[i + 1]? = some y) ↔ ∃ A C, p = A ++ x :: y :: C := by
  constructor
  · rintro ⟨i, h1, h2⟩
    obtain ⟨l1, e1⟩ := List.getElem?_eq_some_iff.mp h1
    obtain ⟨l2, e2⟩ := List.getElem?_eq_some_iff.mp h2
    refine ⟨p.take i, p.drop (i + 2), ?_⟩
    conv => lhs; rw [← List.take_append_drop i p, List.drop_eq_getElem_cons l1, List.drop_eq_getElem_cons l2, e1, e2]
  · rintro ⟨A, C, rfl⟩
    exact ⟨A.length, by simp, by simp⟩
/-- on the side of a -/
def onA (ts : List Tie) (a b x : Nm) : Prop := dist ts a x < dist ts b x
theorem onA_iff (h : IsTree pl ts) (ad : Adj ts a b k) {p : Nm} (hp : p ∈ pl) : (dist ts a p < dist ts b p ↔ dist ts b p = dist ts a p + k) ∧ (¬ dist ts a p < dist ts b p ↔ dist ts a p = dist ts b p + k) := by
  have k1 := (adj_in h ad).2.2
  rcases side h ad hp with z | z
  · exact ⟨⟨fun _ => z, fun _ => by omega⟩, ⟨fun y => absurd (by omega) y, fun y => by omega⟩⟩
  · exact ⟨⟨fun y => absurd y (by omega), fun y => by omega⟩, ⟨fun _ => z, fun _ => by omega⟩⟩
/-- places nearer to a than to b -/
noncomputable def sidN (ts : List Tie) (a b : Nm) (l : List Nm) : Nat := (l.filter fun x => decide (dist ts a x < dist ts b x)).length
theorem sidN_cons (ts : List Tie) (a b x : Nm) (r : List Nm) : sidN ts a b (x :: r) = (if dist ts a x < dist ts b x then 1 else 0) + sidN ts a b r := by
  unfold sidN
  rw [List.filter_cons]
  by_cases c : dist ts a x < dist ts b x
  · rw [if_pos (decide_eq_true c), if_pos c, List.length_cons]
    omega
  · rw [if_neg (fun z => c (of_decide_eq_true z)), if_neg c]
    omega
theorem sidN_le (ts : List Tie) (a b : Nm) (l : List Nm) : sidN ts a b l ≤ l.length := List.length_filter_le _ _
theorem sum_side (h : IsTree pl ts) (ad : Adj ts a b k) : ∀ {l : List Nm}, (∀ x ∈ l, x ∈ pl) → (l.map fun x => dist ts a x).sum - (l.map fun x => dist ts b x).sum = k * ((l.length : Int) - 2 * (sidN ts a b l : Int))
  | [], _ => by simp [sidN]
  | x :: r, hl => by
    have ih := sum_side h ad (l := r) fun y hy => hl y (List.mem_cons_of_mem _ hy)
    obtain ⟨i1, i2⟩ := onA_iff h ad (hl x List.mem_cons_self)
    rw [sidN_cons, List.map_cons, List.map_cons, List.sum_cons, List.sum_cons, List.length_cons]
    by_cases c : dist ts a x < dist ts b x
    · have e := i1.mp c
      rw [if_pos c, e]
      grind
    · have e := i2.mp c
      rw [if_neg c, e]
      grind
theorem sums_differ (h : IsTree pl ts) (ad : Adj ts a b k) : sumOf pl ts a - sumOf pl ts b = k * ((pl.length : Int) - 2 * (sidN ts a b pl : Int)) := sum_side h ad fun _ hx => hx
end
end Far

namespace Far
open PySem PySem.Spec PyProof.Rows L2
/-! ### a lambda of one parameter, as the key of sorted -/
section
variable {prog : Program} {w : World} {A : Around} {E : Value → Shared → Prop} {s : Shared}
/-- v is a tuple whose first item is the whole number i -/
def Fst (h : Heap) (v : Value) (i : Int) : Prop := ∃ (t : Addr) (its : List Value) (tk : Tok), v = .ref t ∧ IsTup h t its.toArray ∧ its[0]? = some (.int i tk)
theorem Fst.keep {h h' : Heap} {v : Value} {i : Int} (f : Fst h v i) (k : ∀ b o, h.get? b = some o → h'.get? b = some o) : Fst h' v i := by
  obtain ⟨t, its, tk, e, ⟨o, ho, r⟩, hi⟩ := f
  exact ⟨t, its, tk, e, ⟨o, k _ _ ho, r⟩, hi⟩
/-- what a body gives at a tuple that begins with i -/
def KeyBody (prog : Program) (w : World) (x : Str) (body : Expr) (g : Int → Int) : Prop :=
  ∀ (A : Around) (env : Env) (s : Shared) (m : Str → Option Value) (v : Value) (i : Int) (Q : Value → Shared → Prop) (E : Value → Shared → Prop), env.scope.kind = .function → env.kindOf x = some .local → s.heap.Ns env.locals m → m x = some v → Fst s.heap v i →
    (∀ t tk, Q (.int (g i) t) { s with toks := tk }) → wpAny (model prog w) A (eval body env) Q E s
theorem body_fst {x : Str} {p1 p2 p3 : Pos} {j : Nat} (hd : (x == ("__debug__" : Str)) = false := by decide) (hs : PlainIx (.Constant (.int 0) j p2) := by exact fun _ _ => rfl) :
    KeyBody prog w x (.Subscript (.Name x p1) (.Constant (.int 0) j p2) p3) id := by
  intro A env s m v i Q E hk hl hn hm f h
  obtain ⟨t, its, tk, rfl, pl, hi⟩ := f
  refine Subscript_ (wpAny_Name (wpAny_loadName_local hk hl hn hm ?_) hd)
  refine wpAny_Constant_int ?_
  have hlt : 0 < its.length := (List.getElem?_eq_some_iff.mp hi).1
  refine subscriptTail_builtinR (x := .int i tk) (show IsTup _ t its.toArray from pl).typeIs slot_tuple_getitem.lookup
    (getItem_tuple (j := 0) (Q := fun r s' => r = Value.int i tk ∧ Q r s') (show IsTup _ t its.toArray from pl) (by decide) (by decide) ?_ (by simpa using hi) ⟨rfl, h _ _⟩) (hs _ _)
  exact seqIndex_of (by decide) (by rw [List.size_toArray]; omega)
theorem body_neg {x : Str} {p1 p2 p3 p4 : Pos} {j : Nat} (hd : (x == ("__debug__" : Str)) = false := by decide) (hs : PlainIx (.Constant (.int 0) j p2) := by exact fun _ _ => rfl) :
    KeyBody prog w x (.UnaryOp .USub (.Subscript (.Name x p1) (.Constant (.int 0) j p2) p3) p4) (fun i => -i) := by
  intro A env s m v i Q E hk hl hn hm f h
  refine UnaryOp_ (body_fst hd hs A env s m v i _ E hk hl hn hm f fun t tk => ?_)
  exact neg_int (h _ _)
/-- the lambda's scope: its one parameter is its one name -/
structure LamP (x : Str) (sc : Scope) : Prop where
  kind : sc.kind = .function
  co : sc.isCoroutine = false
  gen : sc.isGenerator = false
  cell : ∀ y ∈ sc.names, y.2 ≠ .cell
  free : ∀ y ∈ sc.names, y.2 ≠ .free
  loc : sc.names.lookup x = some .local
theorem lam_turn {f c' : Addr} {q x : Str} {params : Arguments} {body : Expr} {scope : Scope} {cl : List (Str × Addr)} {pm ctv v : Value} {g : Int → Int} {i : Int} (hroom : A.depth < recursionLimit)
    (ho : s.heap.get? f = some (PySem.W.kla_obj "<lambda>" q params body scope cl pm c' ctv)) (hcd : s.heap.CodeRec (.ref c') q)
    (hbind : bindArgs (PySem.W.kla_fn "<lambda>" q params body scope cl pm (.ref c') ctv) ⟨[v], []⟩ = pure [(x, v)]) (L : LamP x scope) (lim : s.heap.NoLimit) (B : KeyBody prog w x body g) (hf : Fst s.heap v i) :
    wpAny (model prog w) A (call (.ref f) [v]) (PySem.W.KeyPure (.int (g i)) s) (fun _ _ => False) s := by
  have rc : codeAny (model prog w) A (.call (.ref f) ⟨[v], []⟩) (fun r s' => ∃ u, r = .ok (.ret u) ∧ PySem.W.KeyPure (.int (g i)) s u s') s := by
    refine PySem.W.kla_callFunE hroom ho rfl L.co L.gen rfl hcd ?_
    rw [hbind]
    refine wpAny_pure (wpAny_newFunctionEnv L.cell (fun y hy => by rcases List.mem_singleton.mp hy with rfl; exact L.loc) (fun h₁ hns hsb => ⟨lim.fresh _ hsb, ?_⟩) L.kind)
    have kp : ∀ b o, s.heap.get? b = some o → h₁.get? b = some o := fun b o e => hsb.extBut b o (Nat.ne_of_lt (Heap.lt_size e)) (Heap.get?_push_of_some _ e)
    refine PySem.W.kla_codeExpr (B _ _ _ _ v i _ _ L.kind L.loc hns (by simp) (hf.keep kp) fun t tk => ?_)
    exact ⟨_, rfl, _, _, rfl, kp, .int _ _⟩
  refine wpAny_call (codeAny_mono rc fun r s' hq => ?_)
  obtain ⟨u, rfl, hq⟩ := hq
  exact hq
end
open LamX in
/-- what a built-in with key= asks of the state, the lambda made -/
def CallRL (X : Cx) (id : String) (q : Str) (params : Arguments) (body : Expr) (scope : Scope) (r : List V → Hp → VK → Prop) : Prop :=
  ∀ (pins : List (Addr × Obj)) (s : Shared) (σ : L2.St) (H : Hp) (xs : List V) (us : List Value) (f c' : Addr) (cl : List (Str × Addr)) (pm ctv : Value) (Q : VK), Inv X pins σ H s → Vals xs us → H c' = some (CodeO c' q) →
    s.heap.get? f = some (PySem.W.kla_obj "<lambda>" q params body scope cl pm c' ctv) → r xs H Q → wpAny (model X.prog X.w) X.A (call (.builtin id) us [(Str.ofString "key", .ref f)]) (EP X pins σ Q) X.xe s
open LamX in
def tLamR (T : List (Addr × Str)) (r : List V → Hp → VK → Prop) (t : TA) : TE := fun σ H Q => t σ H fun vs H1 => Tabs T H1 ∧ ∀ H2, ExtN H1 H2 → Tabs T H2 → r vs H2 Q
section
open LamX
variable {X : Cx} {x : Str} {p pos lpos kpos : Pos} {e : Expr} {es : List Expr} {t : TA} {id : String} {r : List V → Hp → VK → Prop} {params : Arguments} {body : Expr} {scope : Scope} {T : List (Addr × Str)} {c P : Addr}
theorem pe_callL (TB : TabB X.base X.mg c P) (hcode : X.env.code = .ref c) (hmT : (P, X.env.qual ++ "<lambda>") ∈ T) (hu : ∀ p ∈ T, p.1 = P → p.2 = X.env.qual ++ "<lambda>") (hc : CallRL X id (X.env.qual ++ "<lambda>") params body scope r)
    (hg : Gl X x) (hm : X.mg x = none) (hv : bootBuiltins x = some (.builtin id)) (ha : PA X (e :: es) t) (hdef : defaultsOf params X.env = ([], [])) (hfree : ∀ y ∈ scope.names, y.2 ≠ .free)
    (hn : x ≠ "__name__" := by decide) (hdb : (x == ("__debug__" : Str)) = false := by decide)
    (he : backTo pos (starEach (e :: es) X.env) = (false, eval e X.env) :: backTo pos (starEach es X.env) := by rfl) (hpl : (backTo pos (starEach (e :: es) X.env)).any (·.1) = false := by rfl) :
    PE X (.Call (.Name x p) (e :: es) [⟨some "key", .Lambda params body scope lpos, kpos⟩] pos) (tLamR T r t) := by
  refine ⟨fun pins s σ H Q I h => ?_⟩
  refine wpAny_Call_Name_kw (ld_blt I hg hm hv ?_ hn hdb)
  refine PyProof.Rows.callWith_kw (thn (ha.run pos pins s σ H _ I h) fun us s1 ⟨vs, H1, I1, r1, hT, q1⟩ => ?_) he hpl rfl rfl
  show wpAny _ _ (evalAll [(do let v ← eval (.Lambda params body scope lpos) X.env; standAt pos; pure v)]) _ _ s1
  refine wpAny_evalAll_cons (wpAny_bind (lam_make2 I1 TB hcode hmT hu hT hdef (fun y hy z => absurd z (hfree y hy)) fun f c' pm ctv H2 s2 I2 eN T2 hf hfn hfr hco => ?_))
  refine wpAny_bind (wpAny_standAt (wpAny_pure (wpAny_evalAll_nil ?_)))
  exact hc pins s2 σ H2 vs us f c' _ pm ctv Q I2 r1 hco hf (q1 H2 eN T2)
def rSortKey (K : PySem.W.Frag) (g : Int → Int) : List V → Hp → VK → Prop := fun vs H Q => ∃ (a : Addr) (xs : List V) (k : V → Int), vs = [V.ref a] ∧ SqL K H a xs ∧ (∀ y ∈ xs, ∃ t zs, y = V.ref t ∧ H t = some (.tup (.int (k y) :: zs))) ∧
  ∀ p, H p = none → Q (.ref p) (upd H p (.lst (xs.mergeSort fun y z => decide (g (k y) ≤ g (k z)))))
theorem each_refl {α : Type} : ∀ l : List α, PySem.W.EachIs (fun u x => u = x) l l
  | [] => .nil
  | _ :: l => .cons rfl (each_refl l)
theorem each_eq {α : Type} {l m : List α} (h : PySem.W.EachIs (fun u x => u = x) l m) : l = m := by
  induction h with
  | nil => rfl
  | cons e _ ih => rw [e, ih]
theorem cr_sortedLam {q y : Str} {g : Int → Int} (hr : Room 1 X.A) (L : LamP y scope) (B : KeyBody X.prog X.w y body g)
    (hbind : ∀ (cl : List (Str × Addr)) (pm ctv v : Value) (c' : Addr), bindArgs (PySem.W.kla_fn "<lambda>" q params body scope cl pm (.ref c') ctv) ⟨[v], []⟩ = pure [(y, v)]) :
    CallRL X "sorted" q params body scope (rSortKey X.K g) := by
  intro pins s σ H vs us f c' cl pm ctv Q I r hco hf h
  obtain ⟨a, xs, k, rfl, hs, hx, q⟩ := h
  obtain ⟨its, rv, hl, hz⟩ := I.list hs
  obtain rfl := Vals.ref1 r
  obtain ⟨e1, e2⟩ := refs_back rv fun x m => by
    obtain ⟨t, _, e, _⟩ := hx x m
    exact ⟨t, e⟩
  have hlen : its.length ≤ sizeLine := by rw [← rv.length]; exact hz
  obtain ⟨⟨oc, cvs, ct, hoc, hdc, hvc⟩, _, _⟩ := I.hok c' _ hco
  have fst : ∀ v ∈ its, Fst s.heap v (k (backV v)) := fun v hv => by
    obtain ⟨t, rfl⟩ := e2 v hv
    have hm : V.ref t ∈ xs := by rw [e1]; exact List.mem_map.mpr ⟨_, hv, rfl⟩
    obtain ⟨t', zs, e, ht⟩ := hx _ hm
    cases e
    obtain ⟨_, its2, r2, ht2⟩ := I.hok _ _ ht
    cases r2 with
    | cons r0 r1 =>
      obtain ⟨tk, rfl⟩ := r0
      exact ⟨t, _, tk, rfl, ht2, rfl⟩
  refine PySem.W.sorted_key_data (β := Value) (bs := its) (R := fun u x => u = x) (b := false) (fun u => PyData.int (g (k (backV u)))) hl.isList (each_refl its) ?_ ?_ hlen (fun x _ => ?_) (PyProof.Rows.ksk_s1 _ _) (fun _ => PyProof.Rows.ksk_l1 _ _) (fun x => PyProof.Rows.ksk_t1 _ _) (fun v x e hx h tk kp => ?_) fun out c h' tk kp hn hd hlo hE => ?_
  · intro d hd d' hd'
    obtain ⟨u, _, rfl⟩ := List.mem_map.mp hd
    obtain ⟨u', _, rfl⟩ := List.mem_map.mp hd'
    rfl
  · refine .inr fun d hd => ?_
    obtain ⟨u, _, rfl⟩ := List.mem_map.mp hd
    exact ⟨(by intro z; cases z), fun xs z => by cases z⟩
  · have := hr.un
    show X.A.units + 2 + 0 < cLine
    omega
  · subst e
    refine lam_turn (s := { s with heap := h, toks := tk }) ?_ (kp _ _ hf) ⟨c', oc, cvs, ct, rfl, kp _ _ hoc, hdc, hvc⟩ (hbind _ _ _ _ _) L (I.nolimit.keeps kp) B ((fst _ hx).keep kp)
    have := hr.dp
    show X.A.depth < _
    omega
  · have e3 : out = its.mergeSort (fun u u' => decide (g (k (backV u)) ≤ g (k (backV u')))) := by
      rw [each_eq hE]
      rw [PySem.W.dataLe_int (fun u : Value => g (k (backV u)))]
    have e4 : out.map backV = xs.mergeSort fun y z => decide (g (k y) ≤ g (k z)) := by
      rw [e3, e1, List.map_mergeSort]
      intro a _ b _
      rfl
    have hr2 : ∀ u ∈ out, ∃ a, u = Value.ref a := fun u hu => by
      rw [e3] at hu
      exact e2 u (List.mem_mergeSort.mp hu)
    have I2 := I.laid (t' := tk) (o := .lst (out.map backV)) kp (Nat.le_succ _) ⟨by rw [List.length_map, hlo]; exact hlen, out, c, vals_back hr2, hd⟩
    rw [e4] at I2
    exact ⟨.ref _, _, I2, rfl, q _ (I.hok.fresh (Nat.le_succ _))⟩
end
end Far

namespace Far
open PySem PySem.Spec PyProof.Rows L2
/-! ### a lambda of one parameter, as the key of min and max -/
theorem first_least (num : Nat → Int) : ∀ k, argBest (fun i j => decide (num i < num j)) k ≤ k ∧ (∀ j, j ≤ k → num (argBest (fun i j => decide (num i < num j)) k) ≤ num j) ∧ ∀ j, j < argBest (fun i j => decide (num i < num j)) k → num (argBest (fun i j => decide (num i < num j)) k) < num j
  | 0 => ⟨Nat.le_refl _, fun j hj => by
      have : j = 0 := by omega
      subst this
      exact Int.le_refl _, fun j hj => absurd hj (Nat.not_lt_zero _)⟩
  | k + 1 => by
    obtain ⟨h1, h2, h3⟩ := first_least num k
    simp only [argBest]
    by_cases c : num (k + 1) < num (argBest (fun i j => decide (num i < num j)) k)
    · rw [if_pos (decide_eq_true c)]
      refine ⟨Nat.le_refl _, fun j hj => ?_, fun j hj => ?_⟩
      · by_cases e : j = k + 1
        · rw [e]
          exact Int.le_refl _
        · have := h2 j (by omega)
          omega
      · have := h2 j (by omega)
        omega
    · rw [if_neg (fun z => c (of_decide_eq_true z))]
      refine ⟨by omega, fun j hj => ?_, h3⟩
      by_cases e : j = k + 1
      · rw [e]
        omega
      · exact h2 j (by omega)
theorem best_neg (num : Nat → Int) : ∀ k, argBest (fun i j => decide (num i > num j)) k = argBest (fun i j => decide (-(num i) < -(num j))) k
  | 0 => rfl
  | k + 1 => by
    simp only [argBest]
    rw [best_neg num k]
    congr 1
    rw [decide_eq_decide.mpr (show num (k + 1) > num (argBest (fun i j => decide (-(num i) < -(num j))) k) ↔ -(num (k + 1)) < -(num (argBest (fun i j => decide (-(num i) < -(num j))) k)) by omega)]
/-- the first of the items with the least key -/
def FirstLeast (xs : List V) (k : V → Int) (y : V) : Prop := ∃ i : Nat, xs[i]? = some y ∧ (∀ (j : Nat) (z : V), xs[j]? = some z → k y ≤ k z) ∧ ∀ (j : Nat) (z : V), j < i → xs[j]? = some z → k y < k z
def rBestKey (K : PySem.W.Frag) (h : Int → Int) : List V → Hp → VK → Prop := fun vs H Q => ∃ (a : Addr) (xs : List V) (k : V → Int), vs = [V.ref a] ∧ SqL K H a xs ∧ 0 < xs.length ∧ (∀ y ∈ xs, ∃ t zs, y = V.ref t ∧ H t = some (.tup (.int (k y) :: zs))) ∧ ∀ y, FirstLeast xs (fun z => h (k z)) y → Q y H
section
open LamX
variable {X : Cx} {params : Arguments} {body : Expr} {scope : Scope}
/-- what min and max share -/
structure Keyed (X : Cx) (s : Shared) (q : Str) (body : Expr) (scope : Scope) (f : Addr) (its : List Value) (kk : Nat → Int) : Prop where
  turn : ∀ (A : Around) (i : Nat) (v : Value) (h : Heap) (tk : Nat), A.depth < recursionLimit → its[i]? = some v → (∀ b o, s.heap.get? b = some o → h.get? b = some o) → wpAny (model X.prog X.w) A (call (.ref f) [v]) (PySem.W.KeyPure (.int (kk i)) { s with heap := h, toks := tk }) (fun _ _ => False) { s with heap := h, toks := tk }
theorem keyrun {s : Shared} {q : Str} {f a : Addr} {its : List Value} {kk : Nat → Int} {A : Around} {op : CmpOp} {bt : Nat → Nat → Bool} (Kd : Keyed X s q body scope f its kk) (ha : a < s.heap.objs.size) (hA : A.depth < recursionLimit)
    (cmp : ∀ i j ki kj (s : Shared) (Q : Value → Shared → Prop) (E : Value → Shared → Prop), (∃ t, ki = .int (kk i) t) → (∃ t, kj = .int (kk j) t) → Q (.bool (bt i j)) s → wpAny (model X.prog X.w) A (richCompare op ki kj) Q E s) :
    KeyRun X.prog X.w A (.ref f) op (s.heap.objs.size + 1) [s.heap.objs.size] (fun a b => b = a) its.toArray.size (fun i v => its.toArray[i]? = some v) (fun i s' => s'.heap.IsListIter s.heap.objs.size a i ∧ s'.heap.IsList a its.toArray)
      (fun s' => ∃ h' tk, s' = { s with heap := h', toks := tk } ∧ ∀ b o, s.heap.get? b = some o → h'.get? b = some o) (fun i k _ => ∃ t, k = Value.int (kk i) t) bt where
  keep := fun s1 s2 ⟨h', tk, e, kp⟩ m => by
    subst e
    have e2 : s2 = { s with heap := s2.heap, toks := s2.toks } := by
      obtain ⟨h2, g2, d2, t2, o2⟩ := s2
      have m1 : g2 = s.gens := m.gens
      have m2 : d2 = s.drawn := m.drawn
      have m3 : o2 = s.os := m.os
      subst m1 m2 m3
      rfl
    refine ⟨s2.heap, s2.toks, e2, fun b o hb => m.heap b o (fun z => ?_) (kp b o hb)⟩
    have hlt := Heap.lt_size hb
    rcases List.mem_cons.mp z with z | z
    · rw [z] at hlt
      exact absurd hlt (Nat.not_lt.mpr (Nat.le_succ _))
    · rw [List.mem_singleton.mp z] at hlt
      exact Nat.lt_irrefl _ hlt
  keepV := fun i k s1 s2 h _ => h
  turn := fun i v s1 o Q E hi hP ⟨h', tk, e, kp⟩ st hS hQ => by
    subst e
    refine wpAny_mono (Kd.turn A i v h' tk hA (by simpa using hP) kp) (fun u s3 hk => ?_) (fun _ _ z => z.elim)
    obtain ⟨h3, tk3, rfl, kp3, hr⟩ := hk
    cases hr
    exact hQ _ _ ⟨h3, tk3, rfl, fun b o hb => kp3 _ _ (kp _ _ hb)⟩ ⟨st.1.at fun o e => kp3 _ _ e, st.2.at fun o e => kp3 _ _ e⟩ (kp3 _ _ hS) ⟨_, rfl⟩ fun _ _ h => h
  cmp := fun i j ki kj s1 Q E _ h1 h2 h => cmp i j ki kj s1 Q E h1 h2 h
/-- the lambda's keys of a list of tuples that begin with whole numbers -/
theorem keyed {pins : List (Addr × Obj)} {s : Shared} {σ : L2.St} {H : Hp} {q y : Str} {f c' : Addr} {cl : List (Str × Addr)} {pm ctv : Value} {xs : List V} {its : List Value} {k : V → Int} {g : Int → Int} (I : Inv X pins σ H s) (L : LamP y scope) (B : KeyBody X.prog X.w y body g)
    (hbind : ∀ (cl : List (Str × Addr)) (pm ctv v : Value) (c' : Addr), bindArgs (PySem.W.kla_fn "<lambda>" q params body scope cl pm (.ref c') ctv) ⟨[v], []⟩ = pure [(y, v)]) (hco : H c' = some (CodeO c' q))
    (hf : s.heap.get? f = some (PySem.W.kla_obj "<lambda>" q params body scope cl pm c' ctv)) (rv : Vals xs its) (hx : ∀ y ∈ xs, ∃ t zs, y = V.ref t ∧ H t = some (.tup (.int (k y) :: zs))) :
    xs = its.map backV ∧ (∀ u ∈ its, ∃ a, u = Value.ref a) ∧ Keyed X s q body scope f its (fun i => match its[i]? with | some v => g (k (backV v)) | none => 0) := by
  obtain ⟨e1, e2⟩ := refs_back rv fun x m => by
    obtain ⟨t, _, e, _⟩ := hx x m
    exact ⟨t, e⟩
  obtain ⟨⟨oc, cvs, ct, hoc, hdc, hvc⟩, _, _⟩ := I.hok c' _ hco
  refine ⟨e1, e2, ⟨fun A i v h tk hA hi kp => ?_⟩⟩
  have hv := List.mem_of_getElem? hi
  have fst : Fst s.heap v (k (backV v)) := by
    obtain ⟨t, rfl⟩ := e2 v hv
    have hm : V.ref t ∈ xs := by rw [e1]; exact List.mem_map.mpr ⟨_, hv, rfl⟩
    obtain ⟨t', zs, e, ht⟩ := hx _ hm
    cases e
    obtain ⟨_, its2, r2, ht2⟩ := I.hok _ _ ht
    cases r2 with
    | cons r0 r1 =>
      obtain ⟨tk, rfl⟩ := r0
      exact ⟨t, _, tk, rfl, ht2, rfl⟩
  rw [hi]
  exact lam_turn (s := { s with heap := h, toks := tk }) hA (kp _ _ hf) ⟨c', oc, cvs, ct, rfl, kp _ _ hoc, hdc, hvc⟩ (hbind _ _ _ _ _) L (I.nolimit.keeps kp) B (fst.keep kp)
theorem cr_minLam {q y : Str} {g : Int → Int} (hr : Room 1 X.A) (L : LamP y scope) (B : KeyBody X.prog X.w y body g)
    (hbind : ∀ (cl : List (Str × Addr)) (pm ctv v : Value) (c' : Addr), bindArgs (PySem.W.kla_fn "<lambda>" q params body scope cl pm (.ref c') ctv) ⟨[v], []⟩ = pure [(y, v)]) :
    CallRL X "min" q params body scope (rBestKey X.K g) := by
  intro pins s σ H vs us f c' cl pm ctv Q I r hco hf h
  obtain ⟨a, xs, k, rfl, hs, pos, hx, q⟩ := h
  obtain ⟨its, rv, hl, hz⟩ := I.list hs
  obtain rfl := Vals.ref1 r
  obtain ⟨e1, e2, Kd⟩ := keyed I L B hbind hco hf rv hx
  have hla : a < s.heap.objs.size := by obtain ⟨_, e, _⟩ := hl.isList; exact Heap.lt_size e
  have hA : X.A.in1.depth < recursionLimit := by have := hr.dp; show X.A.depth < _; omega
  have nl : its.length = xs.length := rv.length.symm
  have KR := keyrun (op := .Lt) (bt := fun i j => decide ((fun i => match its[i]? with | some v => g (k (backV v)) | none => 0) i < (fun i => match its[i]? with | some v => g (k (backV v)) | none => 0) j)) Kd hla hA (fun i j ki kj s1 Q E h1 h2 hq => CmpOf.ints_lt (P := fun i v => ∃ t, v = .int ((fun i => match its[i]? with | some v => g (k (backV v)) | none => 0) i) t) _ (fun _ _ h => h) i j ki kj s1 Q E h1 h2 hq)
  refine call_min_walkK (wpAny_pyIter_list hl.isList ⟨s.heap.objs.size, [s.heap.objs.size, a], [s.heap.objs.size], _, its.toArray.size, _, _, (fun s' : Shared => ∃ h' tk, s' = { s with heap := h', toks := tk } ∧ ∀ b o, s.heap.get? b = some o → h'.get? b = some o), (fun i (kv : Value) (_ : Shared) => ∃ t, kv = Value.int ((fun i => match its[i]? with | some v => g (k (backV v)) | none => 0) i) t), (fun i j => decide ((fun i => match its[i]? with | some v => g (k (backV v)) | none => 0) i < (fun i => match its[i]? with | some v => g (k (backV v)) | none => 0) j)), rfl, (Walks.list (A := X.A.in1) hr.hd _ a (Nat.ne_of_lt hla) its.toArray).toS, ⟨⟨_, Heap.get?_push_size _ rfl, rfl, rfl⟩, hl.isList.push _⟩, fun b hb => ?_, by rw [List.size_toArray]; omega, by rw [Heap.size_push]; exact KR, ⟨_, s.toks, rfl, fun b o e => Heap.get?_push_of_some _ e⟩, fun v s' hP hJ => ?_⟩)
  · show b < (s.heap.push _).objs.size
    rw [Heap.size_push]
    rcases List.mem_cons.mp hb with z | z
    · rw [z]
      exact Nat.lt_succ_self _
    · rw [List.mem_singleton.mp z]
      exact Nat.lt_succ_of_lt hla
  · obtain ⟨h', tk, rfl, kp⟩ := hJ
    have hP : its[argBest (fun i j => decide ((fun i => match its[i]? with | some v => g (k (backV v)) | none => 0) i < (fun i => match its[i]? with | some v => g (k (backV v)) | none => 0) j)) (its.toArray.size - 1)]? = some v := by simpa using hP
    rw [List.size_toArray] at hP
    obtain ⟨f1, f2, f3⟩ := first_least (fun i => match its[i]? with | some v => g (k (backV v)) | none => 0) (its.length - 1)
    generalize argBest (fun i j => decide ((fun i => match its[i]? with | some v => g (k (backV v)) | none => 0) i < (fun i => match its[i]? with | some v => g (k (backV v)) | none => 0) j)) (its.length - 1) = m at hP f1 f2 f3
    have at_ : ∀ (j : Nat) (z : V), xs[j]? = some z → ∃ u, its[j]? = some u ∧ z = backV u := fun j z hz => by
      rw [e1, List.getElem?_map] at hz
      cases eu : its[j]? with
      | none => rw [eu] at hz; cases hz
      | some u => rw [eu] at hz; exact ⟨u, rfl, (Option.some.inj hz).symm⟩
    obtain ⟨av, rfl⟩ := e2 v (List.mem_of_getElem? hP)
    refine ⟨.ref av, H, I.kept kp, rfl, q _ ⟨m, ?_, fun j z hz => ?_, fun j z hj hz => ?_⟩⟩
    · rw [e1, List.getElem?_map, hP]
      rfl
    · obtain ⟨u, hu, rfl⟩ := at_ j z hz
      have := f2 j (by have := (List.getElem?_eq_some_iff.mp hu).1; omega)
      simp only [hP, hu] at this
      exact this
    · obtain ⟨u, hu, rfl⟩ := at_ j z hz
      have := f3 j hj
      simp only [hP, hu] at this
      exact this
theorem cr_maxLam {q y : Str} {g : Int → Int} (hr : Room 1 X.A) (L : LamP y scope) (B : KeyBody X.prog X.w y body g)
    (hbind : ∀ (cl : List (Str × Addr)) (pm ctv v : Value) (c' : Addr), bindArgs (PySem.W.kla_fn "<lambda>" q params body scope cl pm (.ref c') ctv) ⟨[v], []⟩ = pure [(y, v)]) :
    CallRL X "max" q params body scope (rBestKey X.K (fun i => -(g i))) := by
  intro pins s σ H vs us f c' cl pm ctv Q I r hco hf h
  obtain ⟨a, xs, k, rfl, hs, pos, hx, q⟩ := h
  obtain ⟨its, rv, hl, hz⟩ := I.list hs
  obtain rfl := Vals.ref1 r
  obtain ⟨e1, e2, Kd⟩ := keyed I L B hbind hco hf rv hx
  have hla : a < s.heap.objs.size := by obtain ⟨_, e, _⟩ := hl.isList; exact Heap.lt_size e
  have hA : X.A.in1.depth < recursionLimit := by have := hr.dp; show X.A.depth < _; omega
  have nl : its.length = xs.length := rv.length.symm
  have KR := keyrun (op := .Gt) (bt := fun i j => decide ((fun i => match its[i]? with | some v => g (k (backV v)) | none => 0) i > (fun i => match its[i]? with | some v => g (k (backV v)) | none => 0) j)) Kd hla hA (fun i j ki kj s1 Q E h1 h2 hq => CmpOf.ints_gt (P := fun i v => ∃ t, v = .int ((fun i => match its[i]? with | some v => g (k (backV v)) | none => 0) i) t) _ (fun _ _ h => h) i j ki kj s1 Q E h1 h2 hq)
  refine call_max_walkK (wpAny_pyIter_list hl.isList ⟨s.heap.objs.size, [s.heap.objs.size, a], [s.heap.objs.size], _, its.toArray.size, _, _, (fun s' : Shared => ∃ h' tk, s' = { s with heap := h', toks := tk } ∧ ∀ b o, s.heap.get? b = some o → h'.get? b = some o), (fun i (kv : Value) (_ : Shared) => ∃ t, kv = Value.int ((fun i => match its[i]? with | some v => g (k (backV v)) | none => 0) i) t), (fun i j => decide ((fun i => match its[i]? with | some v => g (k (backV v)) | none => 0) i > (fun i => match its[i]? with | some v => g (k (backV v)) | none => 0) j)), rfl, (Walks.list (A := X.A.in1) hr.hd _ a (Nat.ne_of_lt hla) its.toArray).toS, ⟨⟨_, Heap.get?_push_size _ rfl, rfl, rfl⟩, hl.isList.push _⟩, fun b hb => ?_, by rw [List.size_toArray]; omega, by rw [Heap.size_push]; exact KR, ⟨_, s.toks, rfl, fun b o e => Heap.get?_push_of_some _ e⟩, fun v s' hP hJ => ?_⟩)
  · show b < (s.heap.push _).objs.size
    rw [Heap.size_push]
    rcases List.mem_cons.mp hb with z | z
    · rw [z]
      exact Nat.lt_succ_self _
    · rw [List.mem_singleton.mp z]
      exact Nat.lt_succ_of_lt hla
  · obtain ⟨h', tk, rfl, kp⟩ := hJ
    have hP : its[argBest (fun i j => decide ((fun i => match its[i]? with | some v => g (k (backV v)) | none => 0) i > (fun i => match its[i]? with | some v => g (k (backV v)) | none => 0) j)) (its.toArray.size - 1)]? = some v := by simpa using hP
    rw [List.size_toArray, best_neg] at hP
    obtain ⟨f1, f2, f3⟩ := first_least (fun i => -((fun i => match its[i]? with | some v => g (k (backV v)) | none => 0) i)) (its.length - 1)
    generalize argBest (fun i j => decide ((fun i => -((fun i => match its[i]? with | some v => g (k (backV v)) | none => 0) i)) i < (fun i => -((fun i => match its[i]? with | some v => g (k (backV v)) | none => 0) i)) j)) (its.length - 1) = m at hP f1 f2 f3
    have at_ : ∀ (j : Nat) (z : V), xs[j]? = some z → ∃ u, its[j]? = some u ∧ z = backV u := fun j z hz => by
      rw [e1, List.getElem?_map] at hz
      cases eu : its[j]? with
      | none => rw [eu] at hz; cases hz
      | some u => rw [eu] at hz; exact ⟨u, rfl, (Option.some.inj hz).symm⟩
    obtain ⟨av, rfl⟩ := e2 v (List.mem_of_getElem? hP)
    refine ⟨.ref av, H, I.kept kp, rfl, q _ ⟨m, ?_, fun j z hz => ?_, fun j z hj hz => ?_⟩⟩
    · rw [e1, List.getElem?_map, hP]
      rfl
    · obtain ⟨u, hu, rfl⟩ := at_ j z hz
      have := f2 j (by have := (List.getElem?_eq_some_iff.mp hu).1; omega)
      simp only [hP, hu] at this
      exact this
    · obtain ⟨u, hu, rfl⟩ := at_ j z hz
      have := f3 j hj
      simp only [hP, hu] at this
      exact this
end
open LamX in
/-- the same, with default=None -/
def CallRD (X : Cx) (id : String) (q : Str) (params : Arguments) (body : Expr) (scope : Scope) (r : List V → Hp → VK → Prop) : Prop :=
  ∀ (pins : List (Addr × Obj)) (s : Shared) (σ : L2.St) (H : Hp) (xs : List V) (us : List Value) (f c' : Addr) (cl : List (Str × Addr)) (pm ctv : Value) (Q : VK), Inv X pins σ H s → Vals xs us → H c' = some (CodeO c' q) →
    s.heap.get? f = some (PySem.W.kla_obj "<lambda>" q params body scope cl pm c' ctv) → r xs H Q → wpAny (model X.prog X.w) X.A (call (.builtin id) us [(Str.ofString "key", .ref f), (Str.ofString "default", .none)]) (EP X pins σ Q) X.xe s
section
open LamX
variable {X : Cx} {x : Str} {p pos lpos kpos : Pos} {e : Expr} {es : List Expr} {t : TA} {id : String} {r : List V → Hp → VK → Prop} {params : Arguments} {body : Expr} {scope : Scope} {T : List (Addr × Str)} {c P : Addr}
theorem pe_callLD {jd : Nat} {dpos kpos2 : Pos} (TB : TabB X.base X.mg c P) (hcode : X.env.code = .ref c) (hmT : (P, X.env.qual ++ "<lambda>") ∈ T) (hu : ∀ p ∈ T, p.1 = P → p.2 = X.env.qual ++ "<lambda>") (hc : CallRD X id (X.env.qual ++ "<lambda>") params body scope r)
    (hg : Gl X x) (hm : X.mg x = none) (hv : bootBuiltins x = some (.builtin id)) (ha : PA X (e :: es) t) (hdef : defaultsOf params X.env = ([], [])) (hfree : ∀ y ∈ scope.names, y.2 ≠ .free)
    (hn : x ≠ "__name__" := by decide) (hdb : (x == ("__debug__" : Str)) = false := by decide)
    (he : backTo pos (starEach (e :: es) X.env) = (false, eval e X.env) :: backTo pos (starEach es X.env) := by rfl) (hpl : (backTo pos (starEach (e :: es) X.env)).any (·.1) = false := by rfl) :
    PE X (.Call (.Name x p) (e :: es) [⟨some "key", .Lambda params body scope lpos, kpos⟩, ⟨some "default", .Constant .none jd dpos, kpos2⟩] pos) (tLamR T r t) := by
  refine ⟨fun pins s σ H Q I h => ?_⟩
  refine wpAny_Call_Name_kw (ld_blt I hg hm hv ?_ hn hdb)
  refine PyProof.Rows.callWith_kw (thn (ha.run pos pins s σ H _ I h) fun us s1 ⟨vs, H1, I1, r1, hT, q1⟩ => ?_) he hpl rfl rfl
  show wpAny _ _ (evalAll [(do let v ← eval (.Lambda params body scope lpos) X.env; standAt pos; pure v), (do let v ← eval (.Constant .none jd dpos) X.env; standAt pos; pure v)]) _ _ s1
  refine wpAny_evalAll_cons (wpAny_bind (lam_make2 I1 TB hcode hmT hu hT hdef (fun y hy z => absurd z (hfree y hy)) fun f c' pm ctv H2 s2 I2 eN T2 hf hfn hfr hco => ?_))
  refine wpAny_bind (wpAny_standAt (wpAny_pure (wpAny_evalAll_cons (wpAny_bind (Constant_none (wpAny_bind (wpAny_standAt (wpAny_pure (wpAny_evalAll_nil ?_)))))))))
  exact hc pins s2 σ H2 vs us f c' _ pm ctv Q I2 r1 hco hf (q1 H2 eN T2)
def rBestKeyD (K : PySem.W.Frag) (h : Int → Int) : List V → Hp → VK → Prop := fun vs H Q => ∃ (a : Addr) (xs : List V) (k : V → Int), vs = [V.ref a] ∧ SqL K H a xs ∧ (∀ y ∈ xs, ∃ t zs, y = V.ref t ∧ H t = some (.tup (.int (k y) :: zs))) ∧ (xs = [] → Q .non H) ∧ ∀ y, FirstLeast xs (fun z => h (k z)) y → Q y H
theorem cr_minLamD {q y : Str} {g : Int → Int} (hr : Room 1 X.A) (L : LamP y scope) (B : KeyBody X.prog X.w y body g)
    (hbind : ∀ (cl : List (Str × Addr)) (pm ctv v : Value) (c' : Addr), bindArgs (PySem.W.kla_fn "<lambda>" q params body scope cl pm (.ref c') ctv) ⟨[v], []⟩ = pure [(y, v)]) :
    CallRD X "min" q params body scope (rBestKeyD X.K g) := by
  intro pins s σ H vs us f c' cl pm ctv Q I r hco hf h
  obtain ⟨a, xs, k, rfl, hs, hx, q0, q⟩ := h
  obtain ⟨its, rv, hl, hz⟩ := I.list hs
  obtain rfl := Vals.ref1 r
  obtain ⟨e1, e2, Kd⟩ := keyed I L B hbind hco hf rv hx
  have hla : a < s.heap.objs.size := by obtain ⟨_, e, _⟩ := hl.isList; exact Heap.lt_size e
  have hA : X.A.in1.depth < recursionLimit := by have := hr.dp; show X.A.depth < _; omega
  have nl : its.length = xs.length := rv.length.symm
  have KR := keyrun (op := .Lt) (bt := fun i j => decide ((fun i => match its[i]? with | some v => g (k (backV v)) | none => 0) i < (fun i => match its[i]? with | some v => g (k (backV v)) | none => 0) j)) Kd hla hA (fun i j ki kj s1 Q E h1 h2 hq => CmpOf.ints_lt (P := fun i v => ∃ t, v = .int ((fun i => match its[i]? with | some v => g (k (backV v)) | none => 0) i) t) _ (fun _ _ h => h) i j ki kj s1 Q E h1 h2 hq)
  refine call_min_walkKD (wpAny_pyIter_list hl.isList ⟨s.heap.objs.size, [s.heap.objs.size, a], [s.heap.objs.size], _, its.toArray.size, _, _, (fun s' : Shared => ∃ h' tk, s' = { s with heap := h', toks := tk } ∧ ∀ b o, s.heap.get? b = some o → h'.get? b = some o), (fun i (kv : Value) (_ : Shared) => ∃ t, kv = Value.int ((fun i => match its[i]? with | some v => g (k (backV v)) | none => 0) i) t), (fun i j => decide ((fun i => match its[i]? with | some v => g (k (backV v)) | none => 0) i < (fun i => match its[i]? with | some v => g (k (backV v)) | none => 0) j)), rfl, (Walks.list (A := X.A.in1) hr.hd _ a (Nat.ne_of_lt hla) its.toArray).toS, ⟨⟨_, Heap.get?_push_size _ rfl, rfl, rfl⟩, hl.isList.push _⟩, fun b hb => ?_, by rw [Heap.size_push]; exact KR, ⟨_, s.toks, rfl, fun b o e => Heap.get?_push_of_some _ e⟩, fun n0 s' hJ => ?_, fun npos v s' hP hJ => ?_⟩)
  · show b < (s.heap.push _).objs.size
    rw [Heap.size_push]
    rcases List.mem_cons.mp hb with z | z
    · rw [z]
      exact Nat.lt_succ_self _
    · rw [List.mem_singleton.mp z]
      exact Nat.lt_succ_of_lt hla
  · obtain ⟨h', tk, rfl, kp⟩ := hJ
    rw [List.size_toArray] at n0
    exact ⟨.non, H, I.kept kp, rfl, q0 (List.length_eq_zero_iff.mp (by omega))⟩
  · obtain ⟨h', tk, rfl, kp⟩ := hJ
    rw [List.size_toArray] at npos
    have hP : its[argBest (fun i j => decide ((fun i => match its[i]? with | some v => g (k (backV v)) | none => 0) i < (fun i => match its[i]? with | some v => g (k (backV v)) | none => 0) j)) (its.toArray.size - 1)]? = some v := by simpa using hP
    rw [List.size_toArray] at hP
    obtain ⟨f1, f2, f3⟩ := first_least (fun i => match its[i]? with | some v => g (k (backV v)) | none => 0) (its.length - 1)
    generalize argBest (fun i j => decide ((fun i => match its[i]? with | some v => g (k (backV v)) | none => 0) i < (fun i => match its[i]? with | some v => g (k (backV v)) | none => 0) j)) (its.length - 1) = m at hP f1 f2 f3
    have at_ : ∀ (j : Nat) (z : V), xs[j]? = some z → ∃ u, its[j]? = some u ∧ z = backV u := fun j z hz => by
      rw [e1, List.getElem?_map] at hz
      cases eu : its[j]? with
      | none => rw [eu] at hz; cases hz
      | some u => rw [eu] at hz; exact ⟨u, rfl, (Option.some.inj hz).symm⟩
    obtain ⟨av, rfl⟩ := e2 v (List.mem_of_getElem? hP)
    refine ⟨.ref av, H, I.kept kp, rfl, q (.ref av) ⟨m, ?_, fun j z hz => ?_, fun j z hj hz => ?_⟩⟩
    · rw [e1, List.getElem?_map, hP]
      rfl
    · obtain ⟨u, hu, rfl⟩ := at_ j z hz
      have := f2 j (by have := (List.getElem?_eq_some_iff.mp hu).1; omega)
      simp only [hP, hu] at this
      exact this
    · obtain ⟨u, hu, rfl⟩ := at_ j z hz
      have := f3 j hj
      simp only [hP, hu] at this
      exact this
end
end Far

namespace Far
open PySem PySem.Spec PyProof.Rows L2
open C8 (pss_cut tCut)
open SX (S)
abbrev s_check_unlike : Stmt := topS 41
abbrev N_check_unlike : List Str := ["one", "other", "name"]
theorem sc_check_unlike : FnScope N_check_unlike ["one", "other"] (defScope s_check_unlike) := ⟨rfl, rfl, rfl, by decide +kernel, rfl, by decide +kernel, by decide +kernel⟩
section
variable {P : Program} {w : World} {K : PySem.W.Frag} {mg : Str → Option Value} {base : Heap}
def spUnlike : Sp := fun vs H Q _ => ∃ (v v' : V) (pl pl' : List Nm) (ts ts' : List Tie), vs = [v, v'] ∧ Dt H v (treeD pl ts) ∧ Dt H v' (treeD pl' ts') ∧ (∀ x ∈ pl, NameOk x) ∧ (∀ x ∈ pl, x ∉ pl') ∧ Q .non H
theorem ok_check_unlike {f : Addr} {fd : FuncData} (F : Fun K "_check_unlike" "_check_unlike" s_check_unlike f fd) : FnOk P w K mg base CX0 1 f fd ["one", "other"] spUnlike := by
  refine F.ok sc_check_unlike (fun vs H Q E h => ?_) (fun cdv A outer s H vs Q E hr h => ?_)
  · obtain ⟨v, v', pl, pl', ts, ts', rfl, _⟩ := h
    rfl
  · obtain ⟨v, v', pl, pl', ts, ts', rfl, hd, hd', ok, dis, q⟩ := h
    obtain ⟨t, a, b, rfl, ht, ha⟩ := pl0_of hd
    obtain ⟨t', a', b', rfl, ht', ha'⟩ := pl0_of hd'
    refine ⟨_, (pss_one (ps_for PassesOwn.never rfl (pi_tup (pe_ix ix_tup (pv 0) pe_int (fun _ _ => rfl))) (pg_name (i := 2) sc_check_unlike.nd rfl (.inl rfl))
        (pss_one (ps_if (pt_cmpR op_in_seq (pv 2) (pe_ix ix_tup (pv 1) pe_int (fun _ _ => rfl)) rfl)
          (pss_one ps_never)
          pss_nil)))), ?_⟩
    have all : ∀ {ls pre post : List Nm} {l : Nm}, True := fun {_ _ _ _} => trivial
    refine ⟨_, rfl, t, _, 0, .ref a, rfl, rfl, SqT.of ht, atI_nat (j := 0) rfl, a, rfl, ⟨_, ha.sq⟩, for_tup (K := K) (a := a) (xs := (pl.map S).map V.str) (fun i σ' H' => (∃ x2, σ' = [some (.ref t), some (.ref t'), x2]) ∧ H' = H ∧ ∀ x ∈ pl.take i, x ∉ pl') ⟨⟨_, rfl⟩, rfl, fun x hx => by cases hx⟩ (fun i σ' H' _ hP => hP.2.1 ▸ ha.sq) (fun i x σ' H' hi hP => ?_) (fun σ' H' hP => ?_)⟩
    · obtain ⟨⟨x2, rfl⟩, rfl, hin⟩ := hP
      rw [List.getElem?_map, List.getElem?_map] at hi
      cases el : pl[i]? with
      | none =>
        rw [el] at hi
        cases hi
      | some l =>
        rw [el] at hi
        have ex : x = .str (S l) := (Option.some.inj hi).symm
        subst ex
        refine ⟨_, rfl, _, rfl, t', _, 0, .ref a', rfl, rfl, SqT.of ht', atI_nat (j := 0) rfl, a', _, rfl, .inr ha'.sq, rfl, flat_strs pl', _, rfl, ?_⟩
        rw [inV_strs]
        have c : l ∉ pl' := dis l (List.mem_of_getElem? el)
        rw [decide_eq_false c]
        refine iteF ⟨⟨_, rfl⟩, rfl, fun y hy => ?_⟩
        rw [List.take_add_one, el] at hy
        rcases List.mem_append.mp hy with h | h
        · exact hin y h
        · have : y = l := by simpa using h
          rw [this]
          exact c
    · obtain ⟨⟨x2, rfl⟩, rfl, hin⟩ := hP
      rw [List.length_map, List.length_map, List.take_length] at hin
      exact q
end
theorem cat_any {K : PySem.W.Frag} {H : Hp} {a b : Addr} {xs ys : List V} {Q : VK} (ha : TupAt H a xs) (hb : TupAt H b ys) (l : xs.length + ys.length ≤ sizeLine) (k : ∀ p H', Same H H' → TupAt H' p (xs ++ ys) → Q (.ref p) H') : rCatA K (.ref a) (.ref b) H Q :=
  ⟨a, b, xs, ys, rfl, rfl, ha.sq, hb.sq, l, fun e => k b H (Same.refl _) (by rw [e]; exact hb), fun _ e => k a H (Same.refl _) (by rw [e, List.append_nil]; exact ha), fun _ _ p n => k p _ (same_new (Same.refl _) n) (.inl upd_same)⟩
theorem cat_any0 {K : PySem.W.Frag} {H : Hp} {a b : Addr} {xs ys : List V} {Q : VK} (ha : H a = some (.tup xs)) (hb : H b = some (.tup ys)) (l : xs.length + ys.length ≤ sizeLine) (k : ∀ p H', Same H H' → H' p = some (.tup (xs ++ ys)) → Q (.ref p) H') : rCatA K (.ref a) (.ref b) H Q :=
  ⟨a, b, xs, ys, rfl, rfl, SqT.of ha, SqT.of hb, l, fun e => k b H (Same.refl _) (by rw [e]; exact hb), fun _ e => k a H (Same.refl _) (by rw [e, List.append_nil]; exact ha), fun _ _ p n => k p _ (same_new (Same.refl _) n) upd_same⟩
theorem names_dt {H : Hp} {q : Addr} {ls : List Nm} (h : TupAt H q ((ls.map S).map V.str)) (ne : ls ≠ []) : Dt H (.ref q) (.tuple (ls.map strD)) := h.elim (fun h => .tup h (dt_strs H ls)) fun ⟨o, d, h⟩ => .tupZ rfl ne d h
end Far

namespace Far
open PySem PySem.Spec PyProof.Rows L2
open C8 (pss_cut tCut)
open SX (S)
open RZ (ItzT iZipA pi_zipA)
theorem for_zipT {K : PySem.W.Frag} {a b : Addr} {xs ys : List V} {g : TG} {tb : TS} {D : Ends} {σ : L2.St} {H : Hp} (len : xs.length = ys.length) (Pv : Nat → L2.St → Hp → Prop) (h0 : Pv 0 σ H) (hl : ∀ i σ H, Pv i σ H → SqT K H a xs ∧ SqT K H b ys)
    (hs : ∀ i x y σ H T, xs[i]? = some x → ys[i]? = some y → Pv i σ H → H T = none → g (.ref T) σ (upd H T (.tup [x, y])) fun σ2 H2 => tb { D with nx := Pv (i + 1), ct := Pv (i + 1), bk := D.nx } σ2 H2) (hd : ∀ σ H, Pv xs.length σ H → D.nx σ H) :
    ∃ W : Nat → Nat → L2.St → Hp → Prop, (∃ m, W 0 m σ H) ∧ ∀ i m σ H, W i m σ H →
      ((ItzT K a b).stop i H ∧ D.nx σ H) ∨ ((ItzT K a b).go i H ∧ ∃ N : L2.St → Hp → Prop, (∀ σ' H', N σ' H' → ∃ m', m' < m ∧ W (i + 1) m' σ' H') ∧ ∀ x H', (ItzT K a b).yld i H x H' → g x σ H' fun σ2 H2 => tb { D with nx := N, ct := N, bk := D.nx } σ2 H2) := by
  refine ⟨fun i m σ H => m = xs.length - i ∧ i ≤ xs.length ∧ Pv i σ H, ⟨xs.length, by simp, Nat.zero_le _, h0⟩, fun i m σ H ⟨em, hi, p⟩ => ?_⟩
  obtain ⟨q1, q2⟩ := hl i σ H p
  by_cases lt : i < xs.length
  · have lt2 : i < ys.length := by omega
    refine .inr ⟨⟨xs, ys, xs[i], ys[i], q1, q2, by simp [lt], by simp [lt2]⟩, Pv (i + 1), fun σ' H' p' => ⟨xs.length - (i + 1), by omega, rfl, lt, p'⟩, fun v H' ⟨T, x, y, ev, nT, eH, hx, hy⟩ => ?_⟩
    rw [ev, eH]
    exact hs i x y σ H T (hx xs q1) (hy ys q2) p nT
  · have e : i = xs.length := by omega
    rw [e] at p
    exact .inl ⟨⟨xs, ys, q1, q2, .inl (by omega)⟩, hd σ H p⟩
/-- the greatest length inside the two trees -/
def mx2 (i j : Int) : Int := if j > i then j else i
noncomputable def insN (pl pl' : List Nm) (ts ts' : List Tie) : Int := mx2 (mxG (pl.map (rch pl ts))) (mxG (pl'.map (rch pl' ts')))
noncomputable def joinT (pl pl' : List Nm) (ts ts' : List Tie) (k : Int) (x y : Nm) : Tri := (mx2 (insN pl pl' ts ts') (rch pl ts x + k + rch pl' ts' y), x, y)
noncomputable def joinsOf (pl pl' : List Nm) (ts ts' : List Tie) (k : Int) (l : List Nm) : List Tri := l.flatMap fun x => pl'.map fun y => joinT pl pl' ts ts' k x y
theorem joinsOf_len (pl pl' : List Nm) (ts ts' : List Tie) (k : Int) : ∀ l : List Nm, (joinsOf pl pl' ts ts' k l).length = l.length * pl'.length
  | [] => by simp [joinsOf]
  | x :: r => by
    have ih := joinsOf_len pl pl' ts ts' k r
    unfold joinsOf at *
    rw [List.flatMap_cons, List.length_append, ih, List.length_map, List.length_cons, Nat.succ_mul]
    omega
theorem joinsOf_snoc (pl pl' : List Nm) (ts ts' : List Tie) (k : Int) (l : List Nm) (x : Nm) : joinsOf pl pl' ts ts' k (l ++ [x]) = joinsOf pl pl' ts ts' k l ++ pl'.map fun y => joinT pl pl' ts ts' k x y := by
  unfold joinsOf
  rw [List.flatMap_append]
  simp
structure TxtJ (mg : Str → Option Value) : Prop where
  max : mg "max" = none
  zip : mg "zip" = none
abbrev s_all_joins : Stmt := topS 42
abbrev N_all_joins : List Str := ["one", "other", "length", "reaches", "beyond", "inside", "told", "first", "reach", "second", "far"]
theorem sc_all_joins : FnScope N_all_joins ["one", "other", "length"] (defScope s_all_joins) := ⟨rfl, rfl, rfl, by decide +kernel, rfl, by decide +kernel, by decide +kernel⟩
section
variable {P : Program} {w : World} {K : PySem.W.Frag} {mg : Str → Option Value} {base : Heap}
def spAllJ : Sp := fun vs H Q _ => ∃ (v v' : V) (pl pl' : List Nm) (ts ts' : List Tie) (k : Int), vs = [v, v', .int k] ∧ Dt H v (treeD pl ts) ∧ Dt H v' (treeD pl' ts') ∧ (∀ x ∈ pl, NameOk x) ∧ pl.length ≤ 40 ∧ pl'.length ≤ 40 ∧ (∀ x ∈ pl, x ∉ pl') ∧ Fine pl ts ∧ Fine pl' ts' ∧ ∀ (H' : Hp) (q : Addr) (ws : List V), Same H H' → H q = none → H' q = some (.lst ws) → DtAll H' ws ((joinsOf pl pl' ts ts' k pl).map triD) → Q (.ref q) H'
theorem ok_all_joins {f : Addr} {fd : FuncData} (F : Fun K "_all_joins" "_all_joins" s_all_joins f fd) (T : TxtJ mg) (C_check_unlike : Cal P w K mg base 1 "_check_unlike" spUnlike) (Cfarthest_of_each : Cal P w K mg base 4 "farthest_of_each" spFoe) : FnOk P w K mg base CX0 5 f fd ["one", "other", "length"] spAllJ := by
  refine F.ok sc_all_joins (fun vs H Q E h => ?_) (fun cdv A outer s H vs Q E hr h => ?_)
  · obtain ⟨v, v', pl, pl', ts, ts', k, rfl, _⟩ := h
    rfl
  · obtain ⟨v, v', pl, pl', ts, ts', k, rfl, hd, hd', oks, l1, l2, dis, F1, F2, q⟩ := h
    obtain ⟨t, a, b, vs, rfl, ht, ha, hb, hA⟩ := dt_tree hd
    obtain ⟨t', a', b', vs', rfl, ht', ha', hb', hA'⟩ := dt_tree hd'
    refine ⟨_, (pss_cons (ps_expr (pe_c C_check_unlike hr (by decide) rfl (pa_cons (pv 0) (pa_cons (pv 1) pa_nil))))
      (pss_cons (ps_set (i := 3) sc_all_joins.nd rfl (.inl rfl) (pe_c Cfarthest_of_each hr (by decide) rfl (pa_cons (pv 0) pa_nil)))
      (pss_cons (ps_set (i := 4) sc_all_joins.nd rfl (.inl rfl) (pe_c Cfarthest_of_each hr (by decide) rfl (pa_cons (pv 1) pa_nil)))
      (pss_cons (ps_set (i := 5) sc_all_joins.nd rfl (.inl rfl) (pe_callB (call_max2 rfl) (by rfl) T.max bt_max (pa_cons (pe_callB (cr_maxT (K := K) rfl) (by rfl) T.max bt_max (pa_cons (pv 3) pa_nil)) (pa_cons (pe_callB (cr_maxT (K := K) rfl) (by rfl) T.max bt_max (pa_cons (pv 4) pa_nil)) pa_nil))))
      (pss_cons (ps_set (i := 6) sc_all_joins.nd rfl (.inl rfl) (pe_lst pa_nil))
      (pss_cut (ps_for PassesOwn.never rfl (pi_zipA (by rfl) T.zip (pa_cons (pe_ix ix_tup (pv 0) pe_int (fun _ _ => rfl)) (pa_cons (pv 3) pa_nil))) (pg_tup rfl (pgs_cons (pg_name (i := 7) sc_all_joins.nd rfl (.inl rfl)) (pgs_cons (pg_name (i := 8) sc_all_joins.nd rfl (.inl rfl)) pgs_nil)))
        (pss_one (ps_for PassesOwn.never rfl (pi_zipA (by rfl) T.zip (pa_cons (pe_ix ix_tup (pv 1) pe_int (fun _ _ => rfl)) (pa_cons (pv 4) pa_nil))) (pg_tup rfl (pgs_cons (pg_name (i := 9) sc_all_joins.nd rfl (.inl rfl)) (pgs_cons (pg_name (i := 10) sc_all_joins.nd rfl (.inl rfl)) pgs_nil)))
          (pss_one (ps_expr (pe_bm PySem.F.plainAttrs_list PySem.F.slot_list_append PySem.F.type_list_append mt_append (pv 6) (pa_cons (pe_tup (pa_cons (pe_callB (call_max2 rfl) (by rfl) T.max bt_max (pa_cons (pv 5) (pa_cons (pe_op op_add (pe_op op_add (pv 8) (pv 2)) (pv 10)) pa_nil))) (pa_cons (pv 7) (pa_cons (pv 9) pa_nil)))) pa_nil)))))))
      (pss_one (ps_ret (pv 6))))))))), ?_⟩
    refine ⟨_, rfl, _, rfl, .ref t, .ref t', pl, pl', ts, ts', rfl, hd, hd', oks, dis, ?_⟩
    have lpos : 0 < pl.length := List.length_pos_iff.mpr F1.ne
    have lpos' : 0 < pl'.length := List.length_pos_iff.mpr F2.ne
    refine ⟨_, rfl, .ref t, pl, ts, rfl, hd, F1, fun H1 r1 S1 n1 h1 => ?_⟩
    refine ⟨_, rfl, .ref t', pl', ts', rfl, Dt.keep (TK.of S1) hd', F2, fun H2 r2 S2 n2 h2 => ?_⟩
    have h12 := S2 _ _ h1
    have S12 := S1.trans S2
    refine ⟨_, rfl, r1, _, rfl, SqT.of h12, by rw [List.length_map]; exact lpos, fun m hm hle => ?_⟩
    rw [mxG_is hm hle]
    refine ⟨_, rfl, r2, _, rfl, SqT.of h2, by rw [List.length_map]; exact lpos', fun m' hm' hle' => ?_⟩
    rw [mxG_is hm' hle']
    clear hm hle hm' hle'
    refine ⟨_, _, rfl, ?_⟩
    refine ⟨Nat.zero_le _, fun D nD => ?_⟩
    have S3 := same_new (o := .lst []) S12 nD
    have nD0 := S12.free nD
    have h13 := same_new (o := .lst []) (Same.refl H2) nD _ _ h12
    have h23 := same_new (o := .lst []) (Same.refl H2) nD _ _ h2
    have hD0 : (upd H2 D (.lst [])) D = some (.lst []) := upd_same
    generalize upd H2 D (.lst []) = H3 at S3 h13 h23 hD0
    have r1D : r1 ≠ D := ne_of h13 hD0 (by intro z; cases z)
    have r2D : r2 ≠ D := ne_of h23 hD0 (by intro z; cases z)
    refine ⟨fun σ' H' => ∃ (x7 x8 x9 x10 : Option V) (ws : List V), σ' = [some (.ref t), some (.ref t'), some (.int k), some (.ref r1), some (.ref r2), some (.int (insN pl pl' ts ts')), some (.ref D), x7, x8, x9, x10] ∧ Same H H' ∧ H' D = some (.lst ws) ∧ DtAll H' ws ((joinsOf pl pl' ts ts' k pl).map triD), ?_, fun σ' H' hM => ?_⟩
    rotate_left
    · obtain ⟨x7, x8, x9, x10, ws, rfl, S4, hD, hW⟩ := hM
      exact ⟨_, rfl, q H' D ws S4 nD0 hD hW⟩
    · refine ⟨_, rfl, t, _, 0, .ref a, rfl, rfl, SqT.of (S3 _ _ ht), atI_nat (j := 0) rfl, _, rfl, a, r1, _, _, rfl, .inr ⟨(ha.same S3).sq, SqT.of h13, for_zipT (K := K) (a := a) (b := r1) (xs := (pl.map S).map V.str) (ys := (pl.map (rch pl ts)).map V.int) (by simp) (fun i σ' H' => ∃ (x7 x8 x9 x10 : Option V) (ws : List V), σ' = [some (.ref t), some (.ref t'), some (.int k), some (.ref r1), some (.ref r2), some (.int (insN pl pl' ts ts')), some (.ref D), x7, x8, x9, x10] ∧ Same H H' ∧ H' r1 = some (.tup ((pl.map (rch pl ts)).map V.int)) ∧ H' r2 = some (.tup ((pl'.map (rch pl' ts')).map V.int)) ∧ H' D = some (.lst ws) ∧ DtAll H' ws ((joinsOf pl pl' ts ts' k (pl.take i)).map triD))
        ⟨none, none, none, none, [], rfl, S3, h13, h23, hD0, .nil⟩ (fun i σ' H' hP => ?_) (fun i x y σ' H' T1 hx hy hP nT => ?_) (fun σ' H' hP => ?_)⟩⟩
      · obtain ⟨_, _, _, _, _, _, S4, g1, _, _⟩ := hP
        exact ⟨(ha.same S4).sq, SqT.of g1⟩
      · obtain ⟨x7, x8, x9, x10, ws, rfl, S4, g1, g2, hD, hW⟩ := hP
        obtain ⟨nm, hnm, mnm, rfl, ex⟩ := at_name hx
        have ey : y = .int (rch pl ts nm) := by
          rw [List.getElem?_map, List.getElem?_map, hnm] at hy
          exact (Option.some.inj hy).symm
        subst ey
        have il := (List.getElem?_eq_some_iff.mp hnm).1
        have S5 := same_new (o := .tup [.str (S nm), .int (rch pl ts nm)]) S4 nT
        have g15 := same_new (o := .tup [.str (S nm), .int (rch pl ts nm)]) (Same.refl H') nT _ _ g1
        have g25 := same_new (o := .tup [.str (S nm), .int (rch pl ts nm)]) (Same.refl H') nT _ _ g2
        have hD5 := same_new (o := .tup [.str (S nm), .int (rch pl ts nm)]) (Same.refl H') nT _ _ hD
        have hW5 := DtAll.keep (TK.new (o := .tup [.str (S nm), .int (rch pl ts nm)]) nT) hW
        have hT : (upd H' T1 (.tup [.str (S nm), .int (rch pl ts nm)])) T1 = some (.tup [.str (S nm), .int (rch pl ts nm)]) := upd_same
        generalize upd H' T1 (.tup [.str (S nm), .int (rch pl ts nm)]) = H5 at S5 g15 g25 hD5 hW5 hT
        refine ⟨T1, _, rfl, SqT.of hT, rfl, _, _, rfl, _, _, rfl, rfl, ?_⟩
        rw [ex, joinsOf_snoc]
        refine ⟨_, rfl, t', _, 0, .ref a', rfl, rfl, SqT.of (S5 _ _ ht'), atI_nat (j := 0) rfl, _, rfl, a', r2, _, _, rfl, .inr ⟨(ha'.same S5).sq, SqT.of g25, for_zipT (K := K) (a := a') (b := r2) (xs := (pl'.map S).map V.str) (ys := (pl'.map (rch pl' ts')).map V.int) (by simp) (fun j σ' H' => ∃ (x9 x10 : Option V) (ws : List V), σ' = [some (.ref t), some (.ref t'), some (.int k), some (.ref r1), some (.ref r2), some (.int (insN pl pl' ts ts')), some (.ref D), some (.str (S nm)), some (.int (rch pl ts nm)), x9, x10] ∧ Same H H' ∧ H' r1 = some (.tup ((pl.map (rch pl ts)).map V.int)) ∧ H' r2 = some (.tup ((pl'.map (rch pl' ts')).map V.int)) ∧ H' D = some (.lst ws) ∧ DtAll H' ws ((joinsOf pl pl' ts ts' k (pl.take i) ++ (pl'.take j).map fun y => joinT pl pl' ts ts' k nm y).map triD))
          ⟨_, _, ws, rfl, S5, g15, g25, hD5, by rw [List.take_zero, List.map_nil, List.append_nil]; exact hW5⟩ (fun j σ' H' hP => ?_) (fun j x y σ' H' T2 hx hy hP nT => ?_) (fun σ' H' hP => ?_)⟩⟩
        · obtain ⟨_, _, _, _, S4, _, g2, _⟩ := hP
          exact ⟨(ha'.same S4).sq, SqT.of g2⟩
        · clear S4 S5 g1 g2 g15 g25 hD hD5 hW hW5 hT ws
          obtain ⟨y9, y10, ws, rfl, S4, g1, g2, hD, hW⟩ := hP
          obtain ⟨nn, hnn, mnn, rfl, ex2⟩ := at_name hx
          have ey : y = .int (rch pl' ts' nn) := by
            rw [List.getElem?_map, List.getElem?_map, hnn] at hy
            exact (Option.some.inj hy).symm
          subst ey
          have jl := (List.getElem?_eq_some_iff.mp hnn).1
          have S5 := same_new (o := .tup [.str (S nn), .int (rch pl' ts' nn)]) S4 nT
          have k5 := TK.new (o := .tup [.str (S nn), .int (rch pl' ts' nn)]) nT
          have hD5 := same_new (o := .tup [.str (S nn), .int (rch pl' ts' nn)]) (Same.refl H') nT _ _ hD
          have hT : (upd H' T2 (.tup [.str (S nn), .int (rch pl' ts' nn)])) T2 = some (.tup [.str (S nn), .int (rch pl' ts' nn)]) := upd_same
          generalize upd H' T2 (.tup [.str (S nn), .int (rch pl' ts' nn)]) = H5 at S5 k5 hD5 hT
          refine ⟨T2, _, rfl, SqT.of hT, rfl, _, _, rfl, _, _, rfl, rfl, ?_⟩
          refine ⟨_, rfl, .inl ⟨rfl, _, SqL.of hD5⟩, ?_⟩
          refine ⟨_, rfl, _, rfl, _, rfl, _, _, rfl, rfl, _, rfl, _, _, rfl, rfl, _, _, rfl, _, rfl, _, rfl, (by show 3 ≤ sizeLine; decide), fun g ng => ?_⟩
          have S6 := same_new (o := .tup [.int (mx2 (insN pl pl' ts ts') (rch pl ts nm + k + rch pl' ts' nn)), .str (S nm), .str (S nn)]) S5 ng
          have hD6 := same_new (o := .tup [.int (mx2 (insN pl pl' ts ts') (rch pl ts nm + k + rch pl' ts' nn)), .str (S nm), .str (S nn)]) (Same.refl H5) ng _ _ hD5
          have hg : (upd H5 g (.tup [.int (mx2 (insN pl pl' ts ts') (rch pl ts nm + k + rch pl' ts' nn)), .str (S nm), .str (S nn)])) g = some (.tup [.int (mx2 (insN pl pl' ts ts') (rch pl ts nm + k + rch pl' ts' nn)), .str (S nm), .str (S nn)]) := upd_same
          have wl := DtAll.len hW
          rw [List.length_map, List.length_append, joinsOf_len, List.length_map, List.length_take, List.length_take] at wl
          have wl2 : ws.length ≤ 2000 := by
            have h1 : min i pl.length * pl'.length ≤ 40 * 40 := Nat.mul_le_mul (by omega) l2
            omega
          have k6 := k5.trans (TK.new (o := .tup [.int (mx2 (insN pl pl' ts ts') (rch pl ts nm + k + rch pl' ts' nn)), .str (S nm), .str (S nn)]) ng)
          have g1' := (k6.trans (TK.mut (o := .lst (ws ++ [.ref g])) hD6)).tup _ _ g1
          have g2' := (k6.trans (TK.mut (o := .lst (ws ++ [.ref g])) hD6)).tup _ _ g2
          have hg' := (TK.mut (o := .lst (ws ++ [.ref g])) hD6).tup _ _ hg
          have hW' := DtAll.keep (k6.trans (TK.mut (o := .lst (ws ++ [.ref g])) hD6)) hW
          refine ⟨D, ws, _, rfl, rfl, hD6, sz_lt (by omega), ?_⟩
          refine ⟨_, _, ws ++ [.ref g], rfl, same_put S6 nD0, g1', g2', upd_same, ?_⟩
          rw [ex2, List.map_append (l₁ := pl'.take j), ← List.append_assoc, List.map_append (l₂ := List.map _ [nn])]
          exact DtAll.app hW' (.cons (.tup hg' (.cons (.int _) (.cons (.str _) (.cons (.str _) .nil)))) .nil)
        · obtain ⟨y9, y10, ws, rfl, S4, g1, g2, hD, hW⟩ := hP
          rw [List.length_map, List.length_map, List.take_length] at hW
          exact ⟨_, _, _, _, ws, rfl, S4, g1, g2, hD, hW⟩
      · obtain ⟨x7, x8, x9, x10, ws, rfl, S4, g1, g2, hD, hW⟩ := hP
        rw [List.length_map, List.length_map, List.take_length] at hW
        exact ⟨x7, x8, x9, x10, ws, rfl, S4, hD, hW⟩
end
end Far

namespace Far
open PySem PySem.Spec PyProof.Rows L2 LamX
open C8 (pss_cut tCut)
open SX (S)
/-! ### what stands but for tables -/
theorem TK.ofN {H H' : Hp} (e : ExtN H H') : TK H H' := ⟨fun a xs h => e _ _ h (fun ps z => by cases z), fun a o u h => e _ _ h (fun ps z => by cases z)⟩
open Classical in
/-- the first item of the tuple at y -/
noncomputable def fstK (H : Hp) (y : V) : Int := if h : ∃ n, ∃ t zs, y = V.ref t ∧ H t = some (.tup (.int n :: zs)) then h.choose else 0
theorem fstK_is {H : Hp} {t : Addr} {n : Int} {zs : List V} (h : H t = some (.tup (.int n :: zs))) : fstK H (.ref t) = n := by
  have q : ∃ n, ∃ t' zs, V.ref t = V.ref t' ∧ H t' = some (.tup (.int n :: zs)) := ⟨n, t, zs, rfl, h⟩
  unfold fstK
  rw [dif_pos q]
  obtain ⟨t', zs', e, h'⟩ := q.choose_spec
  cases e
  rw [h] at h'
  cases h'
  rfl
/-- a def whose code object stands at c -/
structure FunC (K : PySem.W.Frag) (x qual : Str) (st : Stmt) (f : Addr) (fd : FuncData) (c : Addr) : Prop where
  ex : ∃ (oc : Value) (od : Option Addr) (kV doc pm : Value) (an : Option Addr) (ct : Value) (osl : Array (Option Value)),
    fd = PySem.W.fnOf x qual (defArgs st) (defBody st) (defScope st) .none kV doc pm an (.ref c) ct ∧ K.lookup f = some ⟨oc, od, .func fd, osl⟩ ∧ PySem.W.codeIn K (.ref c) qual = true
section
variable {P : Program} {w : World} {K : PySem.W.Frag} {mg : Str → Option Value} {base : Heap}
theorem FunC.ok {x qual : Str} {st : Stmt} {f c : Addr} {fd : FuncData} {N ps : List Str} {k : Nat} {sp : Sp} (F : FunC K x qual st f fd c) (S : FnScope N ps (defScope st)) (len : ∀ vs H Q E, sp vs H Q E → vs.length = ps.length)
    (hbody : ∀ (A : Around) (outer : List Env) (s : Shared) (H : Hp) (vs : List V) (Q : VK) (E : XK), Room k (A.deeper (envOfC qual (defScope st) s.heap.objs.size f (.ref c))) → sp vs H Q E →
      ∃ t, PSs (cxOf CX0 P w K mg base N qual (defScope st) f (.ref c) A outer s H E).nox (defBody st) t ∧ t { nx := fun _ H' => Q .non H', rt := Q } (start N vs) H) : FnOk P w K mg base CX0 (k + 1) f fd ps sp := by
  obtain ⟨oc, od, kV, doc, pm, an, ct, osl, rfl, lk, hcd⟩ := F.ex
  refine fn_of lk hcd S len fun A outer s H vs Q E hr hsp => ?_
  obtain ⟨t, h, q⟩ := hbody A outer s H vs Q E hr hsp
  exact ⟨t, h.nox, q⟩
theorem FunC.okX {x qual : Str} {st : Stmt} {f c : Addr} {fd : FuncData} {N ps : List Str} {k : Nat} {sp : Sp} (F : FunC K x qual st f fd c) (S : FnScope N ps (defScope st)) (len : ∀ vs H Q E, sp vs H Q E → vs.length = ps.length)
    (hbody : ∀ (A : Around) (outer : List Env) (s : Shared) (H : Hp) (vs : List V) (Q : VK) (E : XK), Room k (A.deeper (envOfC qual (defScope st) s.heap.objs.size f (.ref c))) → sp vs H Q E →
      ∃ t, PSs (cxOf (L2.CX P w) P w K mg base N qual (defScope st) f (.ref c) A outer s H E) (defBody st) t ∧ t { nx := fun _ H' => Q .non H', rt := Q } (start N vs) H) : FnOk P w K mg base (L2.CX P w) (k + 1) f fd ps sp := by
  obtain ⟨oc, od, kV, doc, pm, an, ct, osl, rfl, lk, hcd⟩ := F.ex
  exact fn_of lk hcd S len fun A outer s H vs Q E hr hsp => hbody A outer s H vs Q E hr hsp
end
/-- the first of those with the least f -/
def FL (l : List Tri) (f : Tri → Int) (x : Tri) : Prop := ∃ i : Nat, l[i]? = some x ∧ (∀ (j : Nat) (z : Tri), l[j]? = some z → f x ≤ f z) ∧ ∀ (j : Nat) (z : Tri), j < i → l[j]? = some z → f x < f z
theorem fl_of {H : Hp} {ws : List V} {ps : List Tri} (h : DtAll H ws (ps.map triD)) (g : Int → Int) {y : V} (fl : FirstLeast ws (fun z => g (fstK H z)) y) : ∃ x, FL ps (fun z => g z.1) x ∧ Dt H y (triD x) := by
  have at_ : ∀ (j : Nat) (x : Tri), ps[j]? = some x → ∃ v, ws[j]? = some v ∧ Dt H v (triD x) := fun j x hx => by
    have hl := DtAll.len h
    rw [List.length_map] at hl
    have jl := (List.getElem?_eq_some_iff.mp hx).1
    have hv : ws[j]? = some (ws[j]'(by omega)) := List.getElem?_eq_getElem (by omega)
    obtain ⟨d, hd, hv'⟩ := DtAll.get h hv
    rw [List.getElem?_map, hx] at hd
    cases hd
    exact ⟨_, hv, hv'⟩
  have key : ∀ (v : V) (x : Tri), Dt H v (triD x) → fstK H v = x.1 := fun v x hx => by
    obtain ⟨u, rfl, hu⟩ := dt_tri hx
    exact fstK_is hu
  obtain ⟨i, hi, all, bef⟩ := fl
  obtain ⟨d, hd, hy⟩ := DtAll.get h hi
  rw [List.getElem?_map] at hd
  cases ex : ps[i]? with
  | none => rw [ex] at hd; cases hd
  | some x =>
    rw [ex] at hd
    cases hd
    refine ⟨x, ⟨i, ex, fun j z hz => ?_, fun j z hj hz => ?_⟩, hy⟩
    · obtain ⟨v, hv, hvd⟩ := at_ j z hz
      have := all j v hv
      dsimp only at this ⊢
      rw [key _ _ hy, key _ _ hvd] at this
      exact this
    · obtain ⟨v, hv, hvd⟩ := at_ j z hz
      have := bef j v hj hv
      dsimp only at this ⊢
      rw [key _ _ hy, key _ _ hvd] at this
      exact this
theorem fst_keys {H : Hp} {ws : List V} {ps : List Tri} (h : DtAll H ws (ps.map triD)) : ∀ y ∈ ws, ∃ t zs, y = V.ref t ∧ H t = some (.tup (.int (fstK H y) :: zs)) := fun y hy => by
  obtain ⟨i, hi⟩ := List.getElem?_of_mem hy
  obtain ⟨d, hd, hv⟩ := DtAll.get h hi
  rw [List.getElem?_map] at hd
  cases ex : ps[i]? with
  | none => rw [ex] at hd; cases hd
  | some x =>
    rw [ex] at hd
    cases hd
    obtain ⟨u, rfl, hu⟩ := dt_tri hv
    exact ⟨u, _, rfl, by rw [fstK_is hu]; exact hu⟩
structure TxtB (mg : Str → Option Value) : Prop where
  min : mg "min" = none
  max : mg "max" = none
abbrev s_best_join : Stmt := topS 39
abbrev N_best_join : List Str := ["one", "other", "length"]
theorem sc_best_join : FnScope N_best_join ["one", "other", "length"] (defScope s_best_join) := ⟨rfl, rfl, rfl, by decide +kernel, rfl, by decide +kernel, by decide +kernel⟩
abbrev s_worst_join : Stmt := topS 40
abbrev N_worst_join : List Str := ["one", "other", "length"]
theorem sc_worst_join : FnScope N_worst_join ["one", "other", "length"] (defScope s_worst_join) := ⟨rfl, rfl, rfl, by decide +kernel, rfl, by decide +kernel, by decide +kernel⟩
def qB : Str := ("best_join" : Str) ++ ".<locals>." ++ "<lambda>"
def qW : Str := ("worst_join" : Str) ++ ".<locals>." ++ "<lambda>"
section
variable {P : Program} {w : World} {K : PySem.W.Frag} {mg : Str → Option Value} {base : Heap} {Pb Pw : Addr} {TL : List (Addr × Str)}
def spBest (TL : List (Addr × Str)) (g : Int → Int) : Sp := fun vs H Q _ => ∃ (v v' : V) (pl pl' : List Nm) (ts ts' : List Tie) (k : Int), vs = [v, v', .int k] ∧ Dt H v (treeD pl ts) ∧ Dt H v' (treeD pl' ts') ∧ (∀ x ∈ pl, NameOk x) ∧ pl.length ≤ 40 ∧ pl'.length ≤ 40 ∧ Tabs TL H ∧
  (∀ x ∈ pl, x ∉ pl') ∧ Fine pl ts ∧ Fine pl' ts' ∧ ∀ (H' : Hp) (r : V) (x : Tri), ExtN H H' → Tabs TL H' → FL (joinsOf pl pl' ts ts' k pl) (fun z => g z.1) x → Dt H' r (triD x) → Q r H'
theorem ok_best {f c : Addr} {fd : FuncData} (F : FunC K "best_join" "best_join" s_best_join f fd c) (T : TxtB mg) (hmB : (Pb, qB) ∈ TL) (huB : ∀ p ∈ TL, p.1 = Pb → p.2 = qB) (TB : TabB base mg c Pb) (C_all_joins : Cal P w K mg base 5 "_all_joins" spAllJ) : FnOk P w K mg base CX0 6 f fd ["one", "other", "length"] (spBest TL id) := by
  refine F.ok sc_best_join (fun vs H Q E h => ?_) (fun A outer s H vs Q E hr h => ?_)
  · obtain ⟨v, v', pl, pl', ts, ts', k, rfl, _⟩ := h
    rfl
  · obtain ⟨v, v', pl, pl', ts, ts', k, rfl, hd, hd', oks, l1, l2, hT, dis, F1, F2, q⟩ := h
    refine ⟨_, (pss_one (ps_ret (pe_callL TB (by rfl) hmB huB (cr_minLam (y := "join") (g := id) (hr.mono (by decide)) (by exact ⟨rfl, rfl, rfl, by decide, by decide, rfl⟩) body_fst (fun _ _ _ _ _ => rfl)) (by rfl) T.min bt_min (pa_cons (pe_c C_all_joins hr (by decide) rfl (pa_cons (pv 0) (pa_cons (pv 1) (pa_cons (pv 2) pa_nil)))) pa_nil) (by rfl) (by decide)))), ?_⟩
    refine ⟨_, rfl, _, rfl, _, rfl, v, v', pl, pl', ts, ts', k, rfl, hd, hd', oks, l1, l2, dis, F1, F2, fun H1 D ws S1 nD hD hW => ?_⟩
    have jl : 0 < (joinsOf pl pl' ts ts' k pl).length := by
      rw [joinsOf_len]
      exact Nat.mul_pos (List.length_pos_iff.mpr F1.ne) (List.length_pos_iff.mpr F2.ne)
    refine ⟨hT.ext S1, fun H2 e2 T2 => ?_⟩
    have hW2 := DtAll.keep (TK.ofN e2) hW
    have wl := DtAll.len hW
    rw [List.length_map] at wl
    refine ⟨D, ws, fstK H2, rfl, SqL.of (e2 _ _ hD (fun ps z => by cases z)), by omega, fst_keys hW2, fun y fl => ?_⟩
    obtain ⟨x, hx, hy⟩ := fl_of hW2 id fl
    exact q H2 y x (fun b o h n => e2 b o (S1 b o h) n) T2 hx hy
theorem ok_worst {f c : Addr} {fd : FuncData} (F : FunC K "worst_join" "worst_join" s_worst_join f fd c) (T : TxtB mg) (hmW : (Pw, qW) ∈ TL) (huW : ∀ p ∈ TL, p.1 = Pw → p.2 = qW) (TB : TabB base mg c Pw) (C_all_joins : Cal P w K mg base 5 "_all_joins" spAllJ) : FnOk P w K mg base CX0 6 f fd ["one", "other", "length"] (spBest TL fun i => -i) := by
  refine F.ok sc_worst_join (fun vs H Q E h => ?_) (fun A outer s H vs Q E hr h => ?_)
  · obtain ⟨v, v', pl, pl', ts, ts', k, rfl, _⟩ := h
    rfl
  · obtain ⟨v, v', pl, pl', ts, ts', k, rfl, hd, hd', oks, l1, l2, hT, dis, F1, F2, q⟩ := h
    refine ⟨_, (pss_one (ps_ret (pe_callL TB (by rfl) hmW huW (cr_maxLam (y := "join") (g := id) (hr.mono (by decide)) (by exact ⟨rfl, rfl, rfl, by decide, by decide, rfl⟩) body_fst (fun _ _ _ _ _ => rfl)) (by rfl) T.max bt_max (pa_cons (pe_c C_all_joins hr (by decide) rfl (pa_cons (pv 0) (pa_cons (pv 1) (pa_cons (pv 2) pa_nil)))) pa_nil) (by rfl) (by decide)))), ?_⟩
    refine ⟨_, rfl, _, rfl, _, rfl, v, v', pl, pl', ts, ts', k, rfl, hd, hd', oks, l1, l2, dis, F1, F2, fun H1 D ws S1 nD hD hW => ?_⟩
    have jl : 0 < (joinsOf pl pl' ts ts' k pl).length := by
      rw [joinsOf_len]
      exact Nat.mul_pos (List.length_pos_iff.mpr F1.ne) (List.length_pos_iff.mpr F2.ne)
    refine ⟨hT.ext S1, fun H2 e2 T2 => ?_⟩
    have hW2 := DtAll.keep (TK.ofN e2) hW
    have wl := DtAll.len hW
    rw [List.length_map] at wl
    refine ⟨D, ws, fstK H2, rfl, SqL.of (e2 _ _ hD (fun ps z => by cases z)), by omega, fst_keys hW2, fun y fl => ?_⟩
    obtain ⟨x, hx, hy⟩ := fl_of hW2 (fun i => -i) fl
    exact q H2 y x (fun b o h n => e2 b o (S1 b o h) n) T2 hx hy
end
end Far

namespace Far
open PySem PySem.Spec PyProof.Rows L2
/-! ### {**a, **b} -/
section
variable {prog : Program} {w : World} {A : Around} {E : Value → Shared → Prop}
/-- a pair put without more ado -/
theorem put_pair {s : Shared} {d : Addr} {kvs : List (Key × Value)} {k : Key} {key v : Value} {Q : Unit → Shared → Prop} (kk : (mixKind prog w).is k key = true) (D : s.heap.DictOf (mixKind prog w) d kvs) (z : kvs.length ≤ sizeLine)
    (q : ∀ h', h'.DictOf (mixKind prog w) d (stored kvs k v) → Heap.SameBut d s.heap h' → Q () { s with heap := h' }) : wpAny (model prog w) A (dictPut d ((mixKind prog w).hash k) key v) Q E s := by
  obtain ⟨o, es, ep, g1, g2, g3, g4, g5, g6⟩ := D
  have z2 : es.size ≤ sizeLine := by
    have e1 := g5.length
    rw [Array.length_toList] at e1
    omega
  unfold dictPut
  refine wpAny_bind (wpAny_dictFind_of kk g1 g3 g4 ?_)
  have ix : (es.findIdx? fun e => (mixKind prog w).is k e.key) = kvs.findIdx? fun kv => decide (kv.1 = k) := by
    have := g5.findIdx k
    obtain ⟨l⟩ := es
    rw [← this]
    simp
  cases ei : es.findIdx? fun e => (mixKind prog w).is k e.key with
  | some i =>
    have hit := any_of_findIdx_some (ix ▸ ei)
    have el : (es.toList.findIdx? fun e => (mixKind prog w).is k e.key) = some i := by
      rw [← ei]
      obtain ⟨l⟩ := es
      simp
    have md := g5.modify g6 el v
    refine wpAny_updateDict g1 g3 (q _ ⟨_, es.modify i fun e => { e with val := v }, ep, Heap.get?_update_self _ g1 (Obj.isFreed_of_dict (Obj.data_mapDict g3 _)), g2.mapDict _, ?_, ?_, ?_, ?_⟩ ?_)
    · exact Obj.data_mapDict g3 _
    · exact g4.modify _ _
    · unfold stored
      rw [if_pos hit]
      obtain ⟨l⟩ := es
      simpa using md
    · unfold stored
      rw [if_pos hit, keys_map_store]
      exact g6
    · exact Heap.SameBut.update ..
  | none =>
    have fresh : k ∉ kvs.map (·.1) := not_mem_of_findIdx_none (ix ▸ ei)
    have miss : ¬ (kvs.any fun kv => decide (kv.1 = k)) = true := fun z => by
      obtain ⟨kv, m, e⟩ := List.any_eq_true.mp z
      exact fresh (List.mem_map.mpr ⟨kv, m, of_decide_eq_true e⟩)
    have ap := g5.append kk ((mixKind prog w).hash k) v
    refine wpAny_updateDictKeys (hz := z2) g1 g3 (q _ ⟨_, es.push ⟨(mixKind prog w).hash k, key, v⟩, ep + 1, Heap.get?_update_self _ g1 (Obj.isFreed_of_dict (Obj.data_mapDictKeys g3 _)), g2.mapDictKeys _, ?_, ?_, ?_, ?_⟩ ?_)
    · exact Obj.data_mapDictKeys g3 _
    · exact g4.push kk _
    · unfold stored
      rw [if_neg miss]
      obtain ⟨l⟩ := es
      simpa using ap
    · unfold stored
      rw [if_neg miss, List.map_append]
      exact List.nodup_append.mpr ⟨g6, by simp, fun a ha b hb z => fresh (by rw [List.mem_singleton.mp hb] at z; rw [z] at ha; exact ha)⟩
    · exact Heap.SameBut.update ..
theorem merge_in {s : Shared} {d o : Addr} {kvs more : List (Key × Value)} {Q : Unit → Shared → Prop} (ne : d ≠ o) (nS : (o == sysModules) = false) (D : s.heap.DictOf (mixKind prog w) d kvs) (O : s.heap.DictOf (mixKind prog w) o more) (z : kvs.length + more.length ≤ sizeLine)
    (q : ∀ h', h'.DictOf (mixKind prog w) d (PySem.merged kvs more) → Heap.SameBut d s.heap h' → Q () { s with heap := h' }) : wpAny (model prog w) A (mergeMapping d (.ref o) false) Q E s := by
  obtain ⟨od, esd, epd, a1, a2, a3, a4, a5, a6⟩ := id D
  obtain ⟨oo, eso, epo, b1, b2, b3, b4, b5, b6⟩ := id O
  unfold mergeMapping
  refine wpAny_bind (wpAny_isInstance O.typeIs isSubtype_dict_dict ?_)
  rw [if_pos rfl]
  refine wpAny_bind (wpAny_specialOf O.typeIs PySem.F.slot_dict_iter.lookup ?_)
  refine wpAny_bind (wpAny_pure ?_)
  dsimp only
  rw [show (some (Value.builtin "dict.__iter__") == some (Value.builtin "dict.__iter__")) = true by decide +kernel]
  dsimp only
  rw [if_neg (by rw [nS]; exact Bool.false_ne_true)]
  have ml : more.length = eso.size := by
    have e1 := b5.length
    rw [Array.length_toList] at e1
    omega
  have walk : wpAny (model prog w) A (do
      let size := (← dictEntries o).size
      let epoch ← dictEpoch o
      for i in List.range size do
        let some e := (← dictEntries o)[i]? | unsupported "dict.changed-during-merge"
        holding [e.key, e.val] do
          if false then
            if (← dictFind d e.key e.hash).isSome then rule "dict.merge.duplicate-key"; raiseNew (← newExc (.type "KeyError") [e.key])
          dictPut d e.hash e.key e.val
        if (← dictEpoch o) != epoch then unsupported "dict.changed-during-merge" : Sem Unit) Q E s := by
    refine wpAny_bind (wpAny_dictEntries b1 b3 (wpAny_bind (wpAny_dictEpoch b1 b3 ?_)))
    refine wpAny_bind ?_
    refine wpAny_forIn_list _ (fun rest _ s' => ∃ h' i, s' = { s with heap := h' } ∧ rest = (List.range eso.size).drop i ∧ i ≤ eso.size ∧ h'.DictOf (mixKind prog w) d (PySem.merged kvs (more.take i)) ∧ h'.get? o = some oo ∧ Heap.SameBut d s.heap h') _ ?_ ?_ _ _ ⟨s.heap, 0, rfl, rfl, Nat.zero_le _, by rw [List.take_zero]; exact D, b1, Heap.SameBut.refl _ _⟩
    · rintro x rest b s' ⟨h', i, rfl, hr, hi, D', O', S'⟩
      have lt : i < eso.size := by
        rcases Nat.lt_or_ge i eso.size with c | c
        · exact c
        · rw [List.drop_eq_nil_of_le (by rw [List.length_range]; exact c)] at hr
          cases hr
      rw [List.drop_eq_getElem_cons (by rw [List.length_range]; exact lt), List.getElem_range] at hr
      obtain ⟨rfl, rfl⟩ := List.cons.inj hr
      refine wpAny_bind (wpAny_dictEntries O' b3 ?_)
      rw [Array.getElem?_eq_getElem lt]
      obtain ⟨⟨k, v⟩, hkv⟩ : ∃ kv, more[x]? = some kv := ⟨_, List.getElem?_eq_getElem (by omega)⟩
      obtain ⟨key, val⟩ := b5.get? (e := eso[x]) (by simp [lt]) hkv
      obtain ⟨k', key', hash'⟩ := b4 eso[x] (Array.getElem_mem lt)
      obtain rfl : k' = k := (mixKind prog w).inj _ _ _ key' key
      dsimp only
      rw [hash', val]
      have zz : (PySem.merged kvs (more.take x)).length ≤ sizeLine := by
        have e1 := merged_length_le kvs (more.take x)
        rw [List.length_take] at e1
        omega
      refine wpAny_bind (wpAny_holding ?_)
      rw [if_neg Bool.false_ne_true]
      refine put_pair key D' zz fun h2 D2 S2 => ?_
      have O2 : h2.get? o = some oo := (S2.2 o ne.symm).trans O'
      refine wpAny_bind (wpAny_dictEpoch O2 b3 ?_)
      rw [if_neg (by simp)]
      refine wpAny_pure ⟨h2, x + 1, rfl, rfl, lt, ?_, O2, S'.trans S2⟩
      rw [merged_take_succ kvs more x (k', v) hkv]
      exact D2
    · rintro b s' ⟨h', i, rfl, hr, hi, D', O', S'⟩
      have e : i = eso.size := by
        have := congrArg List.length hr
        rw [List.length_drop, List.length_range, List.length_nil] at this
        omega
      refine wpAny_pure (q h' ?_ S')
      rw [e, ← ml, List.take_length] at D'
      exact D'
  refine wpAny_bind (wpAny_dictEntries a1 a3 ?_)
  split
  · refine wpAny_bind (wpAny_dictEntries b1 b3 (wpAny_bind ?_))
    rw [← Array.forIn_toList]
    refine wpAny_forIn_list _ (fun rest _ s' => (∀ e ∈ rest, ∃ k, (mixKind prog w).is k e.key = true) ∧ s' = s) _ (fun x rest b s' hI => ?_) (fun b s' hI => ?_) _ _ ⟨fun e he => ?_, rfl⟩
    · obtain ⟨all, rfl⟩ := hI
      obtain ⟨k, hk⟩ := all x List.mem_cons_self
      have nxt : ∀ e ∈ rest, ∃ k, (mixKind prog w).is k e.key = true := fun e he => all e (List.mem_cons_of_mem _ he)
      rcases keyIs_shape hk with ⟨n, t, _, ek⟩ | ⟨n, t, _, ek⟩
      · rw [ek]
        exact wpAny_pure ⟨nxt, rfl⟩
      · rw [ek]
        exact wpAny_pure ⟨nxt, rfl⟩
    · rw [hI.2]
      exact walk
    · obtain ⟨k, hk, _⟩ := b4 e (Array.mem_def.mpr he)
      exact ⟨k, hk⟩
  · exact walk
end
/-- {**a, **b}: the new dict stands empty while a is read -/
def tDMerge (t1 t2 : TE) : TE := fun σ H Q => ∀ p, H p = none → t1 σ (upd H p (.dK [])) fun v1 H1 => ∃ a kvs, v1 = .ref a ∧ H1 p = some (.dK []) ∧ H1 a = some (.dK kvs) ∧ p ≠ a ∧ kvs.length ≤ 100000 ∧
  t2 σ (upd H1 p (.dK (mergeK [] kvs))) fun v2 H2 => ∃ b kvs2, v2 = .ref b ∧ H2 p = some (.dK (mergeK [] kvs)) ∧ H2 b = some (.dK kvs2) ∧ p ≠ b ∧ kvs2.length ≤ 100000 ∧ Q (.ref p) (upd H2 p (.dK (mergeK (mergeK [] kvs) kvs2)))
theorem kv_len {kvs : List (Key × V)} {vs : List (Key × Value)} (h : KV kvs vs) : vs.length = kvs.length := by
  unfold KV at h
  induction h with
  | nil => rfl
  | cons _ _ ih => rw [List.length_cons, List.length_cons, ih]
theorem pe_dmerge {X : Cx} {pos : Pos} {e1 e2 : Expr} {t1 t2 : TE} (h1 : PE X e1 t1) (h2 : PE X e2 t2) : PE X (.Dict [none, none] [e1, e2] pos) (tDMerge t1 t2) := by
  refine ⟨fun pins s σ H Q I q => ?_⟩
  have fr := I.hok.fresh (Nat.le_refl s.heap.objs.size)
  have I1 := I.laid (o := .dK []) (a := s.heap.objs.size) (t' := s.toks) (h' := s.heap.push ⟨.type "dict", none, .dict #[] 0, #[]⟩) (fun _ _ z => Heap.get?_push_of_some _ z) (Nat.le_refl _) (dk_empty s.heap I.big)
  rw [PySem.arm_eval_Dict]
  refine wpAny_bind (wpAny_standAt ?_)
  show wpAny _ _ (dictDisplay [(none, do let x ← eval e1 X.env; standAt pos; pure x), (none, do let x ← eval e2 X.env; standAt pos; pure x)]) _ _ _
  unfold dictDisplay
  simp only [List.forIn_cons, List.forIn_nil, List.isEmpty_nil, if_true, pure_bind, bind_assoc]
  refine wpAny_bind (wpAny_alloc (wpAny_bind (wpAny_holding ?_)))
  refine wpAny_bind (thn (h1.run pins _ σ _ _ I1 (q _ fr)) fun u s1 ⟨v, H1, I2, rv, a, kvs, ev, ep, ea, ne, z1, q1⟩ => ?_)
  subst ev
  obtain rfl : u = Value.ref a := rv
  refine wpAny_bind (wpAny_standAt (wpAny_pure ?_))
  obtain ⟨_, hs, v0, r0, d0⟩ := dk_of I2.hok ep
  cases r0
  obtain ⟨_, hsa, va, ra, da⟩ := dk_of I2.hok ea
  have la := kv_len ra
  refine wpAny_bind (wpAny_onRaise (wpAny_tryCatch (wpAny_onRaise (wpAny_holding (merge_in ne hsa d0 da (by rw [la, List.length_nil]; exact Nat.le_trans (by omega) (by decide : 100000 ≤ sizeLine)) fun h' dd S => ?_)))))
  have lz : (mergeK [] kvs).length ≤ sizeLine := Nat.le_trans (length_mergeK kvs []) (Nat.le_trans (by rw [List.length_nil]; omega) (by decide : 100000 ≤ sizeLine))
  have I3 := d_write (t' := s1.toks) I2 (by rw [ep]; exact True.intro) S (let ⟨o, _, _, g, _⟩ := dd; ⟨o, g⟩) (dk_new lz hs (ra.merge .nil) dd)
  refine wpAny_bind (wpAny_holding (wpAny_bind (thn (h2.run pins _ σ _ _ I3 q1) fun u s2 ⟨v, H2, I4, rv, b, kvs2, ev, ep2, eb, ne2, z2, q2⟩ => ?_)))
  subst ev
  obtain rfl : u = Value.ref b := rv
  refine wpAny_bind (wpAny_standAt (wpAny_pure ?_))
  obtain ⟨_, hs2, v1, r1, d1⟩ := dk_of I4.hok ep2
  obtain ⟨_, hsb, vb, rb, db⟩ := dk_of I4.hok eb
  have lb := kv_len rb
  have l1 := kv_len r1
  have l1' := length_mergeK kvs []
  rw [List.length_nil] at l1'
  refine wpAny_bind (wpAny_onRaise (wpAny_tryCatch (wpAny_onRaise (wpAny_holding (merge_in ne2 hsb d1 db (by rw [lb, l1]; exact Nat.le_trans (by omega) (by decide : 200000 ≤ sizeLine)) fun h' dd S => ?_)))))
  have lz2 : (mergeK (mergeK [] kvs) kvs2).length ≤ sizeLine := Nat.le_trans (length_mergeK kvs2 _) (Nat.le_trans (by omega) (by decide : 200000 ≤ sizeLine))
  have I5 := d_write (t' := s2.toks) I4 (by rw [ep2]; exact True.intro) S (let ⟨o, _, _, g, _⟩ := dd; ⟨o, g⟩) (dk_new lz2 hs2 (rb.merge r1) dd)
  exact wpAny_pure ⟨.ref s.heap.objs.size, _, I5, rfl, q2⟩
end Far

namespace Far
open PySem PySem.Spec PyProof.Rows L2
/-! ### next(zip(a, b)), whatever became of the pair that was given out -/
abbrev ZipAt (h : Heap) (z TI TO : Addr) (f0 f1 : Value) : Prop := h.get? z = some { cls := .type "zip", dict := none, data := .fields #[f0, f1, .bool false, .ref TI, .ref TO], slots := #[] }
inductive ZipOut : Value → Value → Prop
  | free (b : Bool) : ZipOut .none (.bool b)
  | out (T : Nat) (b : Bool) : ZipOut (rawInt T) (.bool b)
section
variable {prog : Program} {w : World} {A : Around} {E : Value → Shared → Prop} {s : Shared} {z TI TO i1 i2 : Addr} {fp1 fp2 : List Addr} {n1 n2 i : Nat} {P1 P2 : Nat → Value → Prop} {St1 St2 : Nat → Heap → Prop} {a1 a2 f0 f1 : Value}
theorem look_alive {a : Addr} {Q : Option Obj → Shared → Prop} (h : Q (s.heap.get? a) s) : wpAny (model prog w) A (loadIfAlive a) Q E s := fun _ _ _ => h
theorem zip_asks {Q : Bool → Shared → Prop} (hz : ZipAt s.heap z TI TO f0 f1) (ok : ZipOut f0 f1)
    (h : ∀ b h' g0 g1, ZipOut g0 g1 → ZipAt h' z TI TO g0 g1 → Heap.SameBut z s.heap h' → Q b { s with heap := h' }) : wpAny (model prog w) A (Builtin.SmallTypes.ownedTupleIsFree (.ref z)) Q E s := by
  have same : Heap.SameBut z s.heap s.heap := Heap.SameBut.refl _ _
  unfold Builtin.SmallTypes.ownedTupleIsFree
  cases ok with
  | free b => exact wpAny_bind (wpAny_field hz rfl (x := .none) rfl (wpAny_pure (h true s.heap _ _ (.free b) hz same)))
  | out T b =>
    refine wpAny_bind (wpAny_field hz rfl (x := rawInt T) rfl ?_)
    show wpAny _ _ (loadIfAlive ((T : Int).toNat) >>= _) _ _ _
    refine wpAny_bind (look_alive ?_)
    rw [Int.toNat_natCast]
    cases e : s.heap.get? T with
    | none =>
      simp only [Option.isNone_none, if_true]
      exact wpAny_pure (h true s.heap _ _ (.out T b) hz same)
    | some o =>
      simp only [Option.isNone_some, Bool.false_eq_true, if_false]
      refine wpAny_bind (wpAny_field hz rfl (x := .bool b) rfl ?_)
      cases b with
      | true =>
        rw [if_neg (show ¬ ((Value.bool true != Value.bool true) = true) from Bool.false_ne_true)]
        exact wpAny_pure (h false s.heap _ _ (.out T true) hz same)
      | false =>
        rw [if_pos (show (Value.bool false != Value.bool true) = true from rfl)]
        exact wpAny_bind (wpAny_setField_rec hz (by simp) fun h1 z1 s1 => wpAny_pure (h false h1 _ _ (.out T true) z1 s1))
/-- a pair is drawn -/
theorem zip_item {Q : Value → Shared → Prop} (S : ZipSep2 z TI TO i1 i2 fp1 fp2) (D1 : Draws prog w A i1 fp1 n1 P1 St1) (D2 : Draws prog w A i2 fp2 n2 P2 St2)
    (hz : ZipAt s.heap z TI TO f0 f1) (ok : ZipOut f0 f1) (hTI : IsTupOf2 s.heap TI (.ref i1) (.ref i2)) (hTO : IsTupOf2 s.heap TO a1 a2) (st1 : St1 i s.heap) (st2 : St2 i s.heap) (lt1 : i < n1) (lt2 : i < n2)
    (hQ : ∀ x1 x2 h' tk g0 g1 b1 b2, P1 i x1 → P2 i x2 → ZipOut g0 g1 → ZipAt h' z TI TO g0 g1 → IsTupOf2 h' TO b1 b2 → St1 (i + 1) h' → St2 (i + 1) h' → IsTupOf2 h' s.heap.objs.size x1 x2 → h'.objs.size = s.heap.objs.size + 1 →
      (∀ c o, c ≠ z → c ≠ TO → c ≠ i1 → c ≠ i2 → s.heap.get? c = some o → h'.get? c = some o) → Q (.ref s.heap.objs.size) { s with heap := h', toks := tk }) :
    wpAny (model prog w) A (Builtin.«zip.__next__» ⟨[.ref z], []⟩) (fun fin s' => ∃ v, fin = .done (.ret v) ∧ Q v s') E s := by
  obtain ⟨hp, gs, dr, tk0, os⟩ := s
  show wpAny _ _ (field (.ref z) 2 >>= _) _ _ _
  refine wpAny_bind (wpAny_field hz rfl (x := .bool false) rfl ?_)
  show wpAny _ _ (field (.ref z) 3 >>= _) _ _ _
  refine wpAny_bind (wpAny_field hz rfl (x := .ref TI) rfl (wpAny_bind (wpAny_seqItems hTI rfl ?_)))
  show wpAny _ _ (Builtin.SmallTypes.ownedTupleIsFree (.ref z) >>= _) _ _ _
  refine wpAny_bind (zip_asks hz ok fun b k0 g0 g1 ok0 z0 e0 => ?_)
  replace e0 : Heap.SameBut z hp k0 := e0
  cases b with
  | true =>
    simp only [if_true]
    refine wpAny_bind (wpAny_rule (wpAny_bind (wpAny_field z0 rfl (x := .ref TO) rfl (wpAny_bind (wpAny_setField_rec z0 (by simp) fun k1 z1 e1 => ?_)))))
    replace z1 : ZipAt k1 z TI TO .ellipsis g1 := z1
    replace e1 : Heap.SameBut z k0 k1 := e1
    have q1 : Heap.ExtBut z hp k1 := fun c o hc x => e1.extBut _ _ hc (e0.extBut _ _ hc x)
    have T1 : IsTupOf2 k1 TO a1 a2 := q1 _ _ S.TOz hTO
    have u1 : St1 i k1 := D1.over (D1.over st1 e0 S.zf1) e1 S.zf1
    have u2 : St2 i k1 := D2.over (D2.over st2 e0 S.zf2) e1 S.zf2
    refine wpAny_bind ?_
    simp only [List.zipIdx_cons, List.zipIdx_nil, List.forIn_cons, List.forIn_nil]
    refine wpAny_bind (wpAny_bind (wpAny_onRaise ?_))
    show wpAny _ _ (Builtin.SmallTypes.nextOf (.ref i1) >>= _) _ _ ⟨k1, gs, dr, tk0, os⟩
    refine wpAny_bind (D1.item i _ _ _ lt1 u1 fun x1 k2 t2 px1 u1' e2 => wpAny_pure ?_)
    replace e2 : Heap.SameBut i1 k1 k2 := e2
    have T2 : IsTupOf2 k2 TO a1 a2 := e2.extBut _ _ S.Ti1 T1
    refine wpAny_bind (wpAny_seqItems (s := ⟨k2, gs, dr, t2, os⟩) T2 rfl (wpAny_bind (updateSeq_IsTupOf2 (s := ⟨k2, gs, dr, t2, os⟩) T2 fun k3 T3 e3 => wpAny_bind (wpAny_letGo (wpAny_pure ?_)))))
    replace T3 : IsTupOf2 k3 TO x1 a2 := T3
    replace e3 : Heap.SameBut TO k2 k3 := e3
    refine wpAny_bind (wpAny_bind (wpAny_onRaise ?_))
    show wpAny _ _ (Builtin.SmallTypes.nextOf (.ref i2) >>= _) _ _ ⟨k3, gs, dr, t2, os⟩
    refine wpAny_bind (D2.item i _ _ _ lt2 (D2.over (D2.over u2 e2 S.sep1_2) e3 S.Tf2) fun x2 k4 t4 px2 u2' e4 => wpAny_pure ?_)
    replace e4 : Heap.SameBut i2 k3 k4 := e4
    have T4 : IsTupOf2 k4 TO x1 a2 := e4.extBut _ _ S.Ti2 T3
    refine wpAny_bind (wpAny_seqItems (s := ⟨k4, gs, dr, t4, os⟩) T4 rfl (wpAny_bind (updateSeq_IsTupOf2 (s := ⟨k4, gs, dr, t4, os⟩) T4 fun k5 T5 e5 => wpAny_bind (wpAny_letGo (wpAny_pure (wpAny_pure ?_))))))
    replace T5 : IsTupOf2 k5 TO x1 x2 := T5
    replace e5 : Heap.SameBut TO k4 k5 := e5
    refine wpAny_bind (wpAny_seqItems (s := ⟨k5, gs, dr, t4, os⟩) T5 rfl (wpAny_bind (wpAny_newTuple ?_)))
    have sz : k5.objs.size = hp.objs.size := by rw [e5.1, e4.1, e3.1, e2.1, e1.1, e0.1]
    have z5 : ZipAt k5 z TI TO .ellipsis g1 := e5.extBut _ _ S.TOz.symm (e4.extBut _ _ S.zi2 (e3.extBut _ _ S.TOz.symm (e2.extBut _ _ S.zi1 z1)))
    have q5 : ∀ c o, c ≠ z → c ≠ TO → c ≠ i1 → c ≠ i2 → hp.get? c = some o → k5.get? c = some o := fun c o hz hT h1 h2 x => e5.extBut _ _ hT (e4.extBut _ _ h2 (e3.extBut _ _ hT (e2.extBut _ _ h1 (q1 _ _ hz x))))
    have v1 : St1 (i + 1) k5 := D1.over (D1.over (D1.over u1' e3 S.Tf1) e4 S.sep2_1) e5 S.Tf1
    have v2 : St2 (i + 1) k5 := D2.over u2' e5 S.Tf2
    have zlt : z < k5.objs.size := Heap.lt_size z5
    show wpAny _ _ (Builtin.SmallTypes.ownedTupleHandOut (.ref z) (.ref k5.objs.size) >>= _) _ _ ⟨k5.push { cls := .type "tuple", data := .seq #[x1, x2] }, gs, dr, t4, os⟩
    refine wpAny_bind ?_
    unfold Builtin.SmallTypes.ownedTupleHandOut
    have z6 : ZipAt (k5.push { cls := .type "tuple", data := .seq #[x1, x2] }) z TI TO .ellipsis g1 := Heap.get?_push_of_some _ z5
    refine wpAny_bind (wpAny_setField_rec z6 (by simp) fun k7 z7 e7 => ?_)
    replace z7 : ZipAt k7 z TI TO (rawInt k5.objs.size) g1 := z7
    refine wpAny_setField_rec z7 (by simp) fun k8 z8 e8 => ?_
    replace z8 : ZipAt k8 z TI TO (rawInt k5.objs.size) (.bool false) := z8
    replace e7 : Heap.SameBut z (k5.push { cls := .type "tuple", data := .seq #[x1, x2] }) k7 := e7
    replace e8 : Heap.SameBut z k7 k8 := e8
    have up : ∀ c o, c ≠ z → k5.get? c = some o → k8.get? c = some o := fun c o hc x => e8.extBut _ _ hc (e7.extBut _ _ hc (Heap.get?_push_of_some _ x))
    have T8 : IsTupOf2 k8 k5.objs.size x1 x2 := e8.extBut _ _ (Nat.ne_of_gt zlt) (e7.extBut _ _ (Nat.ne_of_gt zlt) (Heap.get?_push_size _ rfl))
    have s8 : k8.objs.size = k5.objs.size + 1 := by rw [e8.1, e7.1, Heap.size_push]
    refine wpAny_pure ⟨_, rfl, ?_⟩
    show Q (.ref k5.objs.size) ⟨k8, gs, dr, t4, os⟩
    rw [sz] at T8 s8 z8 ⊢
    exact hQ x1 x2 k8 t4 _ _ _ _ px1 px2 (.out _ false) z8 (up _ _ S.TOz T5) (D1.frame _ _ _ v1 fun c hc o x => up c o (fun q => S.zf1 (q ▸ hc)) x) (D2.frame _ _ _ v2 fun c hc o x => up c o (fun q => S.zf2 (q ▸ hc)) x) T8 s8 fun c o hz hT h1 h2 x => up c o hz (q5 c o hz hT h1 h2 x)
  | false =>
    simp only [Bool.false_eq_true, if_false]
    refine wpAny_bind ?_
    rw [← Array.forIn_toList]
    simp only [List.forIn_cons, List.forIn_nil]
    refine wpAny_bind (wpAny_bind (wpAny_holding ?_))
    show wpAny _ _ (Builtin.SmallTypes.nextOf (.ref i1) >>= _) _ _ ⟨k0, gs, dr, tk0, os⟩
    refine wpAny_bind (D1.item i _ _ _ lt1 (D1.over st1 e0 S.zf1) fun x1 k1 t1 px1 u1 e1 => wpAny_pure (wpAny_pure ?_))
    replace e1 : Heap.SameBut i1 k0 k1 := e1
    refine wpAny_bind (wpAny_bind (wpAny_holding ?_))
    show wpAny _ _ (Builtin.SmallTypes.nextOf (.ref i2) >>= _) _ _ ⟨k1, gs, dr, t1, os⟩
    refine wpAny_bind (D2.item i _ _ _ lt2 (D2.over (D2.over st2 e0 S.zf2) e1 S.sep1_2) fun x2 k2 t2 px2 u2 e2 => wpAny_pure (wpAny_pure (wpAny_pure ?_)))
    replace e2 : Heap.SameBut i2 k1 k2 := e2
    show wpAny _ _ (newTuple [x1, x2] >>= _) _ _ ⟨k2, gs, dr, t2, os⟩
    refine wpAny_bind (wpAny_newTuple ?_)
    have sz : k2.objs.size = hp.objs.size := by rw [e2.1, e1.1, e0.1]
    have z2 : ZipAt k2 z TI TO g0 g1 := e2.extBut _ _ S.zi2 (e1.extBut _ _ S.zi1 z0)
    have q2 : ∀ c o, c ≠ z → c ≠ i1 → c ≠ i2 → hp.get? c = some o → k2.get? c = some o := fun c o hz h1 h2 x => e2.extBut _ _ h2 (e1.extBut _ _ h1 (e0.extBut _ _ hz x))
    have up : ∀ c o, k2.get? c = some o → (k2.push { cls := .type "tuple", data := .seq #[x1, x2] }).get? c = some o := fun c o x => Heap.get?_push_of_some _ x
    have T3 : IsTupOf2 (k2.push { cls := .type "tuple", data := .seq #[x1, x2] }) k2.objs.size x1 x2 := Heap.get?_push_size _ rfl
    have s3 : (k2.push { cls := .type "tuple", data := .seq #[x1, x2] }).objs.size = k2.objs.size + 1 := Heap.size_push ..
    refine wpAny_pure ⟨_, rfl, ?_⟩
    show Q (.ref k2.objs.size) ⟨k2.push { cls := .type "tuple", data := .seq #[x1, x2] }, gs, dr, t2, os⟩
    rw [sz] at T3 s3 ⊢
    exact hQ x1 x2 _ t2 g0 g1 _ _ px1 px2 ok0 (up _ _ z2) (up _ _ (q2 _ _ S.TOz S.Ti1 S.Ti2 hTO)) (D1.frame _ _ _ (D1.over u1 e2 S.sep2_1) fun c _ o x => up c o x) (D2.frame _ _ _ u2 fun c _ o x => up c o x) T3 s3 fun c o hz _ h1 h2 x => up c o (q2 c o hz h1 h2 x)
/-- one of both is at its end -/
theorem zip_end {Q : Fin → Shared → Prop} (S : ZipSep2 z TI TO i1 i2 fp1 fp2) (D1 : Draws prog w A i1 fp1 n1 P1 St1) (D2 : Draws prog w A i2 fp2 n2 P2 St2)
    (hz : ZipAt s.heap z TI TO f0 f1) (ok : ZipOut f0 f1) (hTI : IsTupOf2 s.heap TI (.ref i1) (.ref i2)) (hTO : IsTupOf2 s.heap TO a1 a2) (st1 : St1 i s.heap) (st2 : St2 i s.heap) (le1 : i ≤ n1) (le2 : i ≤ n2) (he : i = n1 ∨ i = n2)
    (hE : ∀ h' tk e, (∀ c o, c ≠ z → c ≠ TO → c ≠ i1 → c ≠ i2 → s.heap.get? c = some o → h'.get? c = some o) → (∃ o, h'.get? e = some o ∧ o.cls = .type "StopIteration") → E (.ref e) { s with heap := h', toks := tk }) :
    wpAny (model prog w) A (Builtin.«zip.__next__» ⟨[.ref z], []⟩) Q E s := by
  obtain ⟨hp, gs, dr, tk0, os⟩ := s
  show wpAny _ _ (field (.ref z) 2 >>= _) _ _ _
  refine wpAny_bind (wpAny_field hz rfl (x := .bool false) rfl ?_)
  show wpAny _ _ (field (.ref z) 3 >>= _) _ _ _
  refine wpAny_bind (wpAny_field hz rfl (x := .ref TI) rfl (wpAny_bind (wpAny_seqItems hTI rfl ?_)))
  show wpAny _ _ (Builtin.SmallTypes.ownedTupleIsFree (.ref z) >>= _) _ _ _
  refine wpAny_bind (zip_asks hz ok fun b k0 g0 g1 ok0 z0 e0 => ?_)
  replace e0 : Heap.SameBut z hp k0 := e0
  cases b with
  | true =>
    simp only [if_true]
    refine wpAny_bind (wpAny_rule (wpAny_bind (wpAny_field z0 rfl (x := .ref TO) rfl (wpAny_bind (wpAny_setField_rec z0 (by simp) fun k1 z1 e1 => ?_)))))
    replace z1 : ZipAt k1 z TI TO .ellipsis g1 := z1
    replace e1 : Heap.SameBut z k0 k1 := e1
    have q1 : Heap.ExtBut z hp k1 := fun c o hc x => e1.extBut _ _ hc (e0.extBut _ _ hc x)
    have u1 : St1 i k1 := D1.over (D1.over st1 e0 S.zf1) e1 S.zf1
    have u2 : St2 i k1 := D2.over (D2.over st2 e0 S.zf2) e1 S.zf2
    have T1 : IsTupOf2 k1 TO a1 a2 := q1 _ _ S.TOz hTO
    have fin : ∀ (k : Heap) (t : Nat) (e : Addr) (z9 : ZipAt k z TI TO .ellipsis g1) (q9 : ∀ c o, c ≠ z → c ≠ TO → c ≠ i1 → c ≠ i2 → hp.get? c = some o → k.get? c = some o) (he : ∃ o, k.get? e = some o ∧ o.cls = .type "StopIteration"),
        wpAny (model prog w) A (setField (.ref z) 0 .none) (fun _ s' => E (.ref e) s') E ⟨k, gs, dr, t, os⟩ := fun k t e z9 q9 ⟨o, ho, hc⟩ => by
      have ez : e ≠ z := fun x => by
        subst x
        rw [z9] at ho
        cases ho
        simp at hc
      refine wpAny_setField_rec (s := ⟨k, gs, dr, t, os⟩) z9 (by simp) fun k' _ e' => ?_
      replace e' : Heap.SameBut z k k' := e'
      exact hE k' t e (fun c o hz hT h1 h2 x => e'.extBut _ _ hz (q9 c o hz hT h1 h2 x)) ⟨o, e'.extBut _ _ ez ho, hc⟩
    refine wpAny_bind ?_
    simp only [List.zipIdx_cons, List.zipIdx_nil, List.forIn_cons, List.forIn_nil]
    refine wpAny_bind (wpAny_bind (wpAny_onRaise ?_))
    show wpAny _ _ (Builtin.SmallTypes.nextOf (.ref i1) >>= _) _ _ ⟨k1, gs, dr, tk0, os⟩
    by_cases lt1 : i < n1
    · refine wpAny_bind (D1.item i _ _ _ lt1 u1 fun x1 k2 t2 px1 u1' e2 => wpAny_pure ?_)
      replace e2 : Heap.SameBut i1 k1 k2 := e2
      have T2 : IsTupOf2 k2 TO a1 a2 := e2.extBut _ _ S.Ti1 T1
      refine wpAny_bind (wpAny_seqItems (s := ⟨k2, gs, dr, t2, os⟩) T2 rfl (wpAny_bind (updateSeq_IsTupOf2 (s := ⟨k2, gs, dr, t2, os⟩) T2 fun k3 T3 e3 => wpAny_bind (wpAny_letGo (wpAny_pure ?_)))))
      replace e3 : Heap.SameBut TO k2 k3 := e3
      have i2e : i = n2 := by omega
      refine wpAny_bind (wpAny_bind (wpAny_onRaise ?_))
      show wpAny _ _ (Builtin.SmallTypes.nextOf (.ref i2) >>= _) _ _ ⟨k3, gs, dr, t2, os⟩
      refine wpAny_bind (D2.done ⟨k3, gs, dr, t2, os⟩ _ _ (by rw [← i2e]; exact D2.over (D2.over u2 e2 S.sep1_2) e3 S.Tf2) fun k4 e x4 ho => ?_)
      replace x4 : Heap.ExtBut i2 k3 k4 := x4
      exact fin k4 t2 e (x4 _ _ S.zi2 (e3.extBut _ _ S.TOz.symm (e2.extBut _ _ S.zi1 z1))) (fun c o hz hT h1 h2 x => x4 _ _ h2 (e3.extBut _ _ hT (e2.extBut _ _ h1 (q1 _ _ hz x)))) ho
    · have i1e : i = n1 := by omega
      refine wpAny_bind (D1.done ⟨k1, gs, dr, tk0, os⟩ _ _ (by rw [← i1e]; exact u1) fun k2 e x2 ho => ?_)
      replace x2 : Heap.ExtBut i1 k1 k2 := x2
      exact fin k2 tk0 e (x2 _ _ S.zi1 z1) (fun c o hz hT h1 h2 x => x2 _ _ h1 (q1 _ _ hz x)) ho
  | false =>
    simp only [Bool.false_eq_true, if_false]
    refine wpAny_bind ?_
    rw [← Array.forIn_toList]
    simp only [List.forIn_cons, List.forIn_nil]
    refine wpAny_bind (wpAny_bind (wpAny_holding ?_))
    show wpAny _ _ (Builtin.SmallTypes.nextOf (.ref i1) >>= _) _ _ ⟨k0, gs, dr, tk0, os⟩
    by_cases lt1 : i < n1
    · refine wpAny_bind (D1.item i _ _ _ lt1 (D1.over st1 e0 S.zf1) fun x1 k1 t1 px1 u1 e1 => wpAny_pure (wpAny_pure ?_))
      replace e1 : Heap.SameBut i1 k0 k1 := e1
      have i2e : i = n2 := by omega
      refine wpAny_bind (wpAny_bind (wpAny_holding ?_))
      show wpAny _ _ (Builtin.SmallTypes.nextOf (.ref i2) >>= _) _ _ ⟨k1, gs, dr, t1, os⟩
      refine wpAny_bind (D2.done ⟨k1, gs, dr, t1, os⟩ _ _ (by rw [← i2e]; exact D2.over (D2.over st2 e0 S.zf2) e1 S.sep1_2) fun k2 e x2 ho => ?_)
      replace x2 : Heap.ExtBut i2 k1 k2 := x2
      exact hE k2 t1 e (fun c o hz hT h1 h2 x => x2 _ _ h2 (e1.extBut _ _ h1 (e0.extBut _ _ hz x))) ho
    · have i1e : i = n1 := by omega
      refine wpAny_bind (D1.done ⟨k0, gs, dr, tk0, os⟩ _ _ (by rw [← i1e]; exact D1.over st1 e0 S.zf1) fun k1 e x1 ho => ?_)
      replace x1 : Heap.ExtBut i1 k0 k1 := x1
      exact hE k1 tk0 e (fun c o hz hT h1 h2 x => x1 _ _ h1 (e0.extBut _ _ hz x)) ho
end
end Far

namespace Far
open PySem PySem.Spec PyProof.Rows L2
section
variable {prog : Program} {w : World} {A : Around} {E : Value → Shared → Prop} {s : Shared} {z TI TO i1 i2 : Addr} {fp1 fp2 : List Addr} {n1 n2 i : Nat} {P1 P2 : Nat → Value → Prop} {St1 St2 : Nat → Heap → Prop} {a1 a2 f0 f1 : Value}
theorem next_zip {Q : Option Value → Shared → Prop} (S : ZipSep2 z TI TO i1 i2 fp1 fp2) (D1 : Draws prog w A.in1 i1 fp1 n1 P1 St1) (D2 : Draws prog w A.in1 i2 fp2 n2 P2 St2)
    (hz : ZipAt s.heap z TI TO f0 f1) (ok : ZipOut f0 f1) (hTI : IsTupOf2 s.heap TI (.ref i1) (.ref i2)) (hTO : IsTupOf2 s.heap TO a1 a2) (st1 : St1 i s.heap) (st2 : St2 i s.heap) (lt1 : i < n1) (lt2 : i < n2)
    (hQ : ∀ x1 x2 h' tk g0 g1 b1 b2, P1 i x1 → P2 i x2 → ZipOut g0 g1 → ZipAt h' z TI TO g0 g1 → IsTupOf2 h' TO b1 b2 → St1 (i + 1) h' → St2 (i + 1) h' → IsTupOf2 h' s.heap.objs.size x1 x2 → h'.objs.size = s.heap.objs.size + 1 →
      (∀ c o, c ≠ z → c ≠ TO → c ≠ i1 → c ≠ i2 → s.heap.get? c = some o → h'.get? c = some o) → Q (some (.ref s.heap.objs.size)) { s with heap := h', toks := tk }) :
    wpAny (model prog w) A (pyNext (.ref z)) Q E s := by
  have ty : s.TypeIs (.ref z) "zip" := ⟨_, hz, rfl⟩
  unfold pyNext
  exact wpAny_bind (wpAny_attempt (wpAny_callSpecial?_slot (name := Str.ofString "__next__") ty F.slot_zip_next
    (wpAny_call_entry F.slot_zip_next ty F.entry_zip_next (zip_item S D1 D2 hz ok hTI hTO st1 st2 lt1 lt2 fun x1 x2 h' tk g0 g1 b1 b2 c1 c2 c3 c4 c5 c6 c7 c8 c9 c10 => wpAny_pure (hQ x1 x2 h' tk g0 g1 b1 b2 c1 c2 c3 c4 c5 c6 c7 c8 c9 c10)) (F.args_zip_next_1 _))))
theorem next_zip_end {Q : Option Value → Shared → Prop} (S : ZipSep2 z TI TO i1 i2 fp1 fp2) (D1 : Draws prog w A.in1 i1 fp1 n1 P1 St1) (D2 : Draws prog w A.in1 i2 fp2 n2 P2 St2)
    (hz : ZipAt s.heap z TI TO f0 f1) (ok : ZipOut f0 f1) (hTI : IsTupOf2 s.heap TI (.ref i1) (.ref i2)) (hTO : IsTupOf2 s.heap TO a1 a2) (st1 : St1 i s.heap) (st2 : St2 i s.heap) (le1 : i ≤ n1) (le2 : i ≤ n2) (he : i = n1 ∨ i = n2)
    (hQ : ∀ h' tk, (∀ c o, c ≠ z → c ≠ TO → c ≠ i1 → c ≠ i2 → s.heap.get? c = some o → h'.get? c = some o) → Q none { s with heap := h', toks := tk }) : wpAny (model prog w) A (pyNext (.ref z)) Q E s := by
  have ty : s.TypeIs (.ref z) "zip" := ⟨_, hz, rfl⟩
  unfold pyNext
  refine wpAny_bind (wpAny_attempt (wpAny_callSpecial?_slot (name := Str.ofString "__next__") ty F.slot_zip_next
    (wpAny_call_entry F.slot_zip_next ty F.entry_zip_next (zip_end S D1 D2 hz ok hTI hTO st1 st2 le1 le2 he fun h' tk e hk ⟨o, ho, hc⟩ => ?_) (F.args_zip_next_1 _))))
  exact wpAny_bind (wpAny_isInstance (T := "StopIteration") (b := true) ⟨o, ho, hc⟩ isSubtype_stop (wpAny_pure (hQ _ _ hk)))
theorem iter_zip {Q : Value → Shared → Prop} (hz : ZipAt s.heap z TI TO f0 f1) (h : Q (.ref z) s) : wpAny (model prog w) A (pyIter (.ref z)) Q E s := by
  have ty : s.TypeIs (.ref z) "zip" := ⟨_, hz, rfl⟩
  refine wpAny_pyIter_slot ty F.slot_zip_iter (wpAny_call_entry F.slot_zip_iter ty F.entry_zip_iter ?_ (F.args_zip_iter_1 _))
  unfold Builtin.«dict_keyiterator.__iter__»
  exact wpAny_bind (wpAny_pure (wpAny_pure ⟨_, rfl, "zip", _, ty, F.slot_zip_next.lookup, h⟩))
end
/-- the pairs of two tuples, while both go on -/
def ItzN (K : PySem.W.Frag) (a b : Addr) : It :=
  ⟨fun i H => ∃ (xs ys : List V) (x y : V), SqT K H a xs ∧ SqT K H b ys ∧ xs[i]? = some x ∧ ys[i]? = some y,
   fun i H v H' => ∃ T x y, v = .ref T ∧ H T = none ∧ H' = upd H T (.tup [x, y]) ∧ (∀ xs, SqT K H a xs → xs[i]? = some x) ∧ ∀ ys, SqT K H b ys → ys[i]? = some y,
   fun i H => ∃ xs ys : List V, SqT K H a xs ∧ SqT K H b ys ∧ i ≤ xs.length ∧ i ≤ ys.length ∧ (i = xs.length ∨ i = ys.length)⟩
/-- the state of a zip of the tuples at a, b -/
def ZipSt (z TI TO i1 i2 a b : Addr) (i : Nat) (h : Heap) : Prop :=
  (∃ f0 f1, ZipOut f0 f1 ∧ ZipAt h z TI TO f0 f1) ∧ IsTupOf2 h TI (.ref i1) (.ref i2) ∧ (∃ x y, IsTupOf2 h TO x y) ∧ h.IsTupleIter i1 a i ∧ h.IsTupleIter i2 b i
theorem ZipSt.keep {z TI TO i1 i2 a b : Addr} {i : Nat} {h h' : Heap} (st : ZipSt z TI TO i1 i2 a b i h) (k : ∀ c ∈ [z, TI, TO, i1, i2], ∀ o, h.get? c = some o → h'.get? c = some o) : ZipSt z TI TO i1 i2 a b i h' := by
  obtain ⟨⟨f0, f1, ok, hz⟩, hTI, ⟨x, y, hTO⟩, h1, h2⟩ := st
  exact ⟨⟨f0, f1, ok, k z (by simp) _ hz⟩, k TI (by simp) _ hTI, ⟨x, y, k TO (by simp) _ hTO⟩, h1.at fun o q => k i1 (by simp) o q, h2.at fun o q => k i2 (by simp) o q⟩
structure ZipAp (z TI TO i1 i2 a b : Addr) : Prop where
  sep : ZipSep2 z TI TO i1 i2 [i1, a] [i2, b]
  a1 : a ≠ i1
  b2 : b ≠ i2
theorem zip_ap {N a b : Nat} (ha : a < N) (hb : b < N) : ZipAp (N + 4) (N + 2) (N + 3) N (N + 1) a b :=
  ⟨zip_sep2 (fp1 := [a]) (fp2 := [b]) (fun c hc => by rw [List.mem_singleton.mp hc]; exact ha) (fun c hc => by rw [List.mem_singleton.mp hc]; exact hb), Nat.ne_of_lt ha, Nat.ne_of_lt (Nat.lt_succ_of_lt hb)⟩
section
variable {X : Cx} {pins : List (Addr × Obj)} {σ : L2.St} {H : Hp} {s : Shared} {z TI TO i1 i2 a b : Addr} {i : Nat} {A : Around} {E : Value → Shared → Prop} {xs ys : List V}
/-- a turn, the pair tracked -/
theorem zip_turn (hh : A.handled = none) (D : ZipAp z TI TO i1 i2 a b) (I : Inv X pins σ H s) (hf : ∀ c ∈ [z, TI, TO, i1, i2], FpOk X pins H c) (st : ZipSt z TI TO i1 i2 a b i s.heap) (hx : SqT X.K H a xs) (hy : SqT X.K H b ys) {x y : V} (ex : xs[i]? = some x) (ey : ys[i]? = some y)
    {Q : Option Value → Shared → Prop} (q : ∀ T s', H T = none → Inv X pins σ (upd H T (.tup [x, y])) s' → ZipSt z TI TO i1 i2 a b (i + 1) s'.heap → (∀ c ∈ [z, TI, TO, i1, i2], (upd H T (.tup [x, y])) c = none) → (∀ c o, c ∉ [z, TI, TO, i1, i2] → s.heap.get? c = some o → s'.heap.get? c = some o) → T = s.heap.objs.size → Q (some (.ref T)) s') :
    wpAny (model X.prog X.w) A (pyNext (.ref z)) Q E s := by
  obtain ⟨⟨f0, f1, ok, hz⟩, hTI, ⟨x0, y0, hTO⟩, h1, h2⟩ := st
  obtain ⟨its, rv, p, _⟩ := I.tuple hx
  obtain ⟨its2, rv2, p2, _⟩ := I.tuple hy
  obtain ⟨u, hu, ru⟩ := rv.get ex
  obtain ⟨u2, hu2, ru2⟩ := rv2.get ey
  have zl : z < s.heap.objs.size := Heap.lt_size hz
  have l1 : i < its.toArray.size := by
    have := (List.getElem?_eq_some_iff.mp hu).1
    simpa using this
  have l2 : i < its2.toArray.size := by
    have := (List.getElem?_eq_some_iff.mp hu2).1
    simpa using this
  refine next_zip D.sep (Draws.tuple (A := A.in1) hh i1 a D.a1 its.toArray) (Draws.tuple (A := A.in1) hh i2 b D.b2 its2.toArray) hz ok hTI hTO ⟨h1, show s.heap.IsTuple a its.toArray from p⟩ ⟨h2, show s.heap.IsTuple b its2.toArray from p2⟩ l1 l2 fun v1 v2 h' tk g0 g1 b1 b2 e1 e2 ok' hz' hTO' t1 t2 hT sz k => ?_
  have ev1 : v1 = u := by
    have : its.toArray[i]? = some u := by simpa using hu
    exact Option.some.inj (e1.symm.trans this)
  have ev2 : v2 = u2 := by
    have : its2.toArray[i]? = some u2 := by simpa using hu2
    exact Option.some.inj (e2.symm.trans this)
  subst ev1 ev2
  have new : ObjOk X.prog X.w (upd H s.heap.objs.size (.tup [x, y])) h' s.heap.objs.size (.tup [x, y]) := ⟨by show 2 ≤ sizeLine; decide, [v1, v2], .cons ru (.cons ru2 .nil), ⟨_, hT, rfl, _, rfl⟩⟩
  have kk : ∀ c o, c ∉ [z, TI, TO, i1, i2] → s.heap.get? c = some o → h'.get? c = some o := fun c o hc e => k c o (fun q => hc (by simp [q])) (fun q => hc (by simp [q])) (fun q => hc (by simp [q])) (fun q => hc (by simp [q])) e
  have I1 : Inv X pins σ (upd H s.heap.objs.size (.tup [x, y])) { s with heap := h', toks := tk } := I.turnedNew (t' := tk) (ch := [z, TI, TO, i1, i2]) kk hf (Nat.le_refl _) new
  have lt : ∀ c ∈ [z, TI, TO, i1, i2], c < s.heap.objs.size := fun c hc => by
    have e' : c = z ∨ c = TI ∨ c = TO ∨ c = i1 ∨ c = i2 := by simpa using hc
    rcases e' with q | q | q | q | q
    · rw [q]; exact zl
    · rw [q]; exact Heap.lt_size hTI
    · rw [q]; exact Heap.lt_size hTO
    · rw [q]; obtain ⟨_, e1, _⟩ := h1; exact Heap.lt_size e1
    · rw [q]; obtain ⟨_, e1, _⟩ := h2; exact Heap.lt_size e1
  exact q _ _ (I.hok.fresh (Nat.le_refl _)) I1 ⟨⟨g0, g1, ok', hz'⟩, k _ _ D.sep.TIz D.sep.TITO D.sep.TIi1 D.sep.TIi2 hTI, ⟨b1, b2, hTO'⟩, t1.1, t2.1⟩
    (fun c hc => by rw [upd_ne (Nat.ne_of_lt (lt c hc))]; exact (hf c hc).1) kk rfl
theorem zip_over (hh : A.handled = none) (D : ZipAp z TI TO i1 i2 a b) (I : Inv X pins σ H s) (hf : ∀ c ∈ [z, TI, TO, i1, i2], FpOk X pins H c) (st : ZipSt z TI TO i1 i2 a b i s.heap) (hx : SqT X.K H a xs) (hy : SqT X.K H b ys) (le1 : i ≤ xs.length) (le2 : i ≤ ys.length) (he : i = xs.length ∨ i = ys.length)
    {Q : Option Value → Shared → Prop} (q : ∀ s', Inv X pins σ H s' → (∀ c o, c ∉ [z, TI, TO, i1, i2] → s.heap.get? c = some o → s'.heap.get? c = some o) → Q none s') :
    wpAny (model X.prog X.w) A (pyNext (.ref z)) Q E s := by
  obtain ⟨⟨f0, f1, ok, hz⟩, hTI, ⟨x0, y0, hTO⟩, h1, h2⟩ := st
  obtain ⟨its, rv, p, _⟩ := I.tuple hx
  obtain ⟨its2, rv2, p2, _⟩ := I.tuple hy
  have l1 := rv.length
  have l2 := rv2.length
  refine next_zip_end D.sep (Draws.tuple (A := A.in1) hh i1 a D.a1 its.toArray) (Draws.tuple (A := A.in1) hh i2 b D.b2 its2.toArray) hz ok hTI hTO ⟨h1, show s.heap.IsTuple a its.toArray from p⟩ ⟨h2, show s.heap.IsTuple b its2.toArray from p2⟩ (by simp; omega) (by simp; omega) (by simp; omega) fun h' tk k => ?_
  have kk : ∀ c o, c ∉ [z, TI, TO, i1, i2] → s.heap.get? c = some o → h'.get? c = some o := fun c o hc e => k c o (fun q => hc (by simp [q])) (fun q => hc (by simp [q])) (fun q => hc (by simp [q])) (fun q => hc (by simp [q])) e
  exact q _ (I.turnedL (t' := tk) (ch := [z, TI, TO, i1, i2]) kk hf) kk
end
theorem turn_zipN {P : Program} {w : World} {K : PySem.W.Frag} {tg : Expr} {a b z TI TO i1 i2 : Addr} (D : ZipAp z TI TO i1 i2 a b) (ht : ∀ it v, letOwnedTupleGo tg it v = pure ()) :
    Turn P w K tg (ItzN K a b) [z, TI, TO, i1, i2] z (ZipSt z TI TO i1 i2 a b) where
  mem := by simp
  obj := fun i h st c hc => by
    obtain ⟨⟨f0, f1, ok, hz⟩, hTI, ⟨x, y, hTO⟩, ⟨o1, e1, _, d1⟩, ⟨o2, e2, _, d2⟩⟩ := st
    have e' : c = z ∨ c = TI ∨ c = TO ∨ c = i1 ∨ c = i2 := by simpa using hc
    rcases e' with q | q | q | q | q
    · rw [q]; exact ⟨_, hz, fun v q => nomatch q⟩
    · rw [q]; exact ⟨_, hTI, fun v q => nomatch q⟩
    · rw [q]; exact ⟨_, hTO, fun v q => nomatch q⟩
    · rw [q]; exact ⟨o1, e1, fun v q => by rw [d1] at q; cases q⟩
    · rw [q]; exact ⟨o2, e2, fun v q => by rw [d2] at q; cases q⟩
  keep := fun i h h' st k => st.keep k
  item := by
    intro X hP hw hK hc i pins s σ H E I hf st hg
    subst hP hw hK
    obtain ⟨xs, ys, x, y, hqx, hqy, hx, hy⟩ := hg
    refine zip_turn (I.ok.hd hc) D I hf st hqx hqy hx hy fun T s' nT I' st' nf _ _ => ⟨_, rfl, ?_⟩
    rw [ht]
    exact wpAny_pure ⟨.ref T, _, I', rfl, ⟨T, x, y, rfl, nT, rfl, fun l hl => by rw [I.tuple_inj hl hqx]; exact hx, fun l hl => by rw [I.tuple_inj hl hqy]; exact hy⟩, st', nf⟩
  done := by
    intro X hP hw hK hc i pins s σ H E I hf st hg
    subst hP hw hK
    obtain ⟨xs, ys, hqx, hqy, le1, le2, he⟩ := hg
    exact zip_over (I.ok.hd hc) D I hf st hqx hqy le1 le2 he fun s' I' _ => ⟨rfl, I'⟩
  self := fun A i s Q E st h => by
    obtain ⟨⟨f0, f1, _, hz⟩, _⟩ := st
    exact iter_zip hz h
/-- for p in zip(a, b), two tuples -/
def iZipN (K : PySem.W.Frag) (ta : TA) : TI := fun σ H R => ta σ H fun vs H1 => ∃ a b xs ys, vs = [.ref a, .ref b] ∧ SqT K H1 a xs ∧ SqT K H1 b ys ∧ R (ItzN K a b) H1
section
variable {X : Cx}
/-- the zip is made -/
theorem zip_made {pins : List (Addr × Obj)} {σ : L2.St} {H : Hp} {s : Shared} {a b : Addr} {xs ys : List V} {Q : Value → Shared → Prop} {A : Around} {E : Value → Shared → Prop} (I : Inv X pins σ H s) (hx : SqT X.K H a xs) (hy : SqT X.K H b ys)
    (q : ∀ z TI TO i1 i2 s', ZipAp z TI TO i1 i2 a b → Inv X pins σ H s' → ZipSt z TI TO i1 i2 a b 0 s'.heap → (∀ c ∈ [z, TI, TO, i1, i2], FpOk X pins H c) → (∀ c o, s.heap.get? c = some o → s'.heap.get? c = some o) → Q (.ref z) s') :
    wpAny (model X.prog X.w) A (call (.type "zip") [.ref a, .ref b]) Q E s := by
  obtain ⟨its, rv, p1, _⟩ := I.tuple hx
  obtain ⟨its2, rv2, p2, _⟩ := I.tuple hy
  have al : a < s.heap.objs.size := by
    obtain ⟨o, m, _⟩ := id p1
    exact Heap.lt_size m
  have bl : b < s.heap.objs.size := by
    obtain ⟨o, m, _⟩ := id p2
    exact Heap.lt_size m
  refine zip_begins2 (begins_tuple a its.toArray) (begins_tuple b its2.toArray) (show s.heap.IsTuple a its.toArray from p1) (show s.heap.IsTuple b its2.toArray from p2) fun h' hz hTI hTO h1 h2 sz k => ?_
  refine q _ _ _ _ _ _ (zip_ap al bl) (I.kept (t' := s.toks) k) ⟨⟨_, _, .free false, hz⟩, hTI, ⟨_, _, hTO⟩, ⟨_, h1, rfl, rfl⟩, ⟨_, h2, rfl, rfl⟩⟩ (fun c hc => ?_) k
  have e' : c = s.heap.objs.size + 4 ∨ c = s.heap.objs.size + 2 ∨ c = s.heap.objs.size + 3 ∨ c = s.heap.objs.size ∨ c = s.heap.objs.size + 1 := by simpa using hc
  have hle : s.heap.objs.size ≤ c := by
    rcases e' with z | z | z | z | z
    · rw [z]; exact Nat.le_add_right _ _
    · rw [z]; exact Nat.le_add_right _ _
    · rw [z]; exact Nat.le_add_right _ _
    · rw [z]; exact Nat.le_refl _
    · rw [z]; exact Nat.le_add_right _ _
  exact I.fpOk hle (I.hok.fresh hle)
theorem pi_zipN {e e2 : Expr} {ta : TA} {p pos : Pos} {x : Str} {pt : Pos} (hg : Gl X "zip") (hm : X.mg "zip" = none) (ha : PA X [e, e2] ta)
    (hs : starEach [e, e2] X.env = (false, eval e X.env) :: starEach [e2] X.env := by rfl) (hpl : (backTo pos (starEach [e2] X.env)).any (·.1) = false := by rfl) :
    PI X (.Name x pt) (.Call (.Name "zip" p) [e, e2] [] pos) (iZipN X.K ta) := by
  refine ⟨fun pins s σ H R I h => ?_⟩
  refine Call_ (ld_blt I hg hm PyProof.Rows.boot_zip (PyProof.Rows.callWith_type1 (thn (ha.run pos pins s σ H _ I h) fun us s1 ⟨vs, H1, I1, r1, q1⟩ => ?_) hs hpl))
  obtain ⟨a, b, xs, ys, ex, hx, hy, q1⟩ := q1
  subst ex
  cases r1 with
  | cons r rr =>
    cases rr with
    | cons r' rr =>
      cases rr
      cases r
      cases r'
      refine zip_made I1 hx hy fun z TI TO i1 i2 s' D I' st hf _ => ?_
      obtain ⟨⟨f0, f1, _, hz⟩, _⟩ := id st
      exact iter_zip hz ⟨z, _, _, _, H1, rfl, I', turn_zipN D fun _ _ => rfl, st, hf, q1⟩
end
/-- a comprehension over the pairs -/
theorem zip_itN {K : PySem.W.Frag} {a b : Addr} {xs ys : List V} {n : Nat} {g : TG} {tt : TT} {te : TE} {vs : List Nat} {σ : L2.St} {H1 : Hp} {D : Addr} {Qd : Hp → Prop} (hn : n ≤ xs.length) (hn2 : n ≤ ys.length) (he : n = xs.length ∨ n = ys.length) (Pv : Nat → Hp → Prop) (h0 : Pv 0 (upd H1 D (.lst []))) (hl : ∀ i H, Pv i H → SqT K H a xs ∧ SqT K H b ys)
    (hs : ∀ i x y H T, xs[i]? = some x → ys[i]? = some y → Pv i H → H T = none → g (.ref T) (wipe σ vs) (upd H T (.tup [x, y])) fun σ2 H2 => wipe σ2 vs = wipe σ vs ∧ tt σ2 H2 fun b H3 =>
      if b = true then te σ2 H3 fun y H4 => ∃ acc, H4 D = some (.lst acc) ∧ acc.length < sizeLine ∧ Pv (i + 1) (upd H4 D (.lst (acc ++ [y]))) else Pv (i + 1) H3) (hd : ∀ H, Pv n H → Qd H) :
    ∃ W : Nat → Nat → Hp → Prop, (∃ m, W 0 m (upd H1 D (.lst []))) ∧ ∀ i m H, W i m H →
      ((ItzN K a b).stop i H ∧ Qd H) ∨ ((ItzN K a b).go i H ∧ ∃ Nx : Hp → Prop, (∀ H', Nx H' → ∃ m', m' < m ∧ W (i + 1) m' H') ∧ ∀ v H', (ItzN K a b).yld i H v H' → g v (wipe σ vs) H' fun σ2 H2 => wipe σ2 vs = wipe σ vs ∧ tt σ2 H2 fun b H3 =>
        if b = true then te σ2 H3 fun y H4 => ∃ acc, H4 D = some (.lst acc) ∧ acc.length < sizeLine ∧ Nx (upd H4 D (.lst (acc ++ [y]))) else Nx H3) := by
  refine ⟨fun i m H => m = n - i ∧ i ≤ n ∧ Pv i H, ⟨n, by simp, Nat.zero_le _, h0⟩, fun i m H ⟨em, hi, p⟩ => ?_⟩
  obtain ⟨q1, q2⟩ := hl i H p
  by_cases lt : i < n
  · refine .inr ⟨⟨xs, ys, xs[i]'(by omega), ys[i]'(by omega), q1, q2, by simp, by simp⟩, Pv (i + 1), fun H' p' => ⟨n - (i + 1), by omega, rfl, lt, p'⟩, fun v H' ⟨T, x, y, ev, nT, eH, hx, hy⟩ => ?_⟩
    rw [ev, eH]
    exact hs i x y H T (hx xs q1) (hy ys q2) p nT
  · have e : i = n := by omega
    rw [e] at p ⊢
    exact .inl ⟨⟨xs, ys, q1, q2, hn, hn2, he⟩, hd H p⟩
end Far

namespace Far
open PySem PySem.Spec PyProof.Rows L2
section
variable {prog : Program} {w : World} {z TI TO i1 i2 : Addr} {fp1 fp2 : List Addr} {n1 n2 : Nat} {P1 P2 : Nat → Value → Prop} {St1 St2 : Nat → Heap → Prop}
/-- a zip over any two, as it goes -/
def ZipOn (z TI TO i1 i2 : Addr) (St1 St2 : Nat → Heap → Prop) (i : Nat) (h : Heap) : Prop :=
  (∃ f0 f1, ZipOut f0 f1 ∧ ZipAt h z TI TO f0 f1) ∧ IsTupOf2 h TI (.ref i1) (.ref i2) ∧ (∃ x y, IsTupOf2 h TO x y) ∧ St1 i h ∧ St2 i h
/-- zip(a, b) as what dict() is given -/
theorem zipArg (A0 : Around) (hA0 : A0.handled = none) (S : ZipSep2 z TI TO i1 i2 fp1 fp2) (D1 : ∀ A : Around, A.handled = none → Draws prog w A i1 fp1 n1 P1 St1) (D2 : ∀ A : Around, A.handled = none → Draws prog w A i2 fp2 n2 P2 St2)
    (t1 : ∀ i h, St1 i h → ∀ c ∈ fp1, ∃ o, h.get? c = some o) (t2 : ∀ i h, St2 i h → ∀ c ∈ fp2, ∃ o, h.get? c = some o) :
    PairArg prog w "zip" z (z :: TI :: TO :: (fp1 ++ fp2)) [z, TO, i1, i2] (min n1 n2) (fun i k v => P1 i k ∧ P2 i v) (ZipOn z TI TO i1 i2 St1 St2 0) where
  type := fun s ok => by
    obtain ⟨⟨f0, f1, _, hz⟩, _⟩ := ok
    exact ⟨_, hz, rfl⟩
  notDict := by decide
  keep := fun h h' ok k => by
    obtain ⟨⟨f0, f1, ok, hz⟩, hTI, ⟨x, y, hTO⟩, st1, st2⟩ := ok
    exact ⟨⟨f0, f1, ok, k _ _ hz⟩, k _ _ hTI, ⟨x, y, k _ _ hTO⟩, (D1 A0 hA0).frame _ _ _ st1 fun b _ o e => k b o e, (D2 A0 hA0).frame _ _ _ st2 fun b _ o e => k b o e⟩
  there := fun h ok c hc => by
    obtain ⟨⟨f0, f1, _, hz⟩, hTI, ⟨x, y, hTO⟩, st1, st2⟩ := ok
    rcases List.mem_cons.mp hc with q | hc
    · exact ⟨_, q ▸ hz⟩
    rcases List.mem_cons.mp hc with q | hc
    · exact ⟨_, q ▸ hTI⟩
    rcases List.mem_cons.mp hc with q | hc
    · exact ⟨_, q ▸ hTO⟩
    rcases List.mem_append.mp hc with q | q
    · exact t1 _ _ st1 c q
    · exact t2 _ _ st2 c q
  sub := fun c hc => by
    have hc' : c = z ∨ c = TO ∨ c = i1 ∨ c = i2 := by simpa using hc
    have m1 := S.mem1
    have m2 := S.mem2
    rcases hc' with q | q | q | q <;> rw [q]
    · exact List.mem_cons_self ..
    · exact List.mem_cons_of_mem _ (List.mem_cons_of_mem _ (List.mem_cons_self ..))
    · exact List.mem_cons_of_mem _ (List.mem_cons_of_mem _ (List.mem_cons_of_mem _ (List.mem_append_left _ m1)))
    · exact List.mem_cons_of_mem _ (List.mem_cons_of_mem _ (List.mem_cons_of_mem _ (List.mem_append_right _ m2)))
  noKeys := fun A s Q E hA ok h => by
    obtain ⟨⟨f0, f1, _, hz⟩, _⟩ := ok
    exact getAttrOr_miss_zip hz rfl rfl rfl zip_no_keys (by decide +kernel) hA h
  iter := fun A s d Q E hA ok dl df h => by
    have ok0 := ok
    obtain ⟨⟨f0, f1, _, hz⟩, _⟩ := ok0
    have dz : d ≠ z := fun e => df (by rw [e]; exact List.mem_cons_self ..)
    have dTI : d ≠ TI := fun e => df (by rw [e]; exact List.mem_cons_of_mem _ (List.mem_cons_self ..))
    have dTO : d ≠ TO := fun e => df (by rw [e]; exact List.mem_cons_of_mem _ (List.mem_cons_of_mem _ (List.mem_cons_self ..)))
    have d1 : ∀ c ∈ fp1, c ≠ d := fun c hc e => df (by rw [← e]; exact List.mem_cons_of_mem _ (List.mem_cons_of_mem _ (List.mem_cons_of_mem _ (List.mem_append_left _ hc))))
    have d2 : ∀ c ∈ fp2, c ≠ d := fun c hc e => df (by rw [← e]; exact List.mem_cons_of_mem _ (List.mem_cons_of_mem _ (List.mem_cons_of_mem _ (List.mem_append_right _ hc))))
    refine iter_zip hz (h z [z, TO, i1, i2] (ZipOn z TI TO i1 i2 St1 St2) s.heap s.toks ?_ ok (fun _ _ e => e) fun c hc => .inl hc)
    exact {
      off := fun hm => by
        have hc' : d = z ∨ d = TO ∨ d = i1 ∨ d = i2 := by simpa using hm
        rcases hc' with q | q | q | q
        · exact dz q
        · exact dTO q
        · exact d1 _ S.mem1 q.symm
        · exact d2 _ S.mem2 q.symm
      frame := fun i h1 h2 st k => by
        obtain ⟨⟨f0, f1, ok, hz⟩, hTI, ⟨x, y, hTO⟩, st1, st2⟩ := st
        exact ⟨⟨f0, f1, ok, k _ _ (Ne.symm dz) hz⟩, k _ _ (Ne.symm dTI) hTI, ⟨x, y, k _ _ (Ne.symm dTO) hTO⟩, (D1 A hA).frame _ _ _ st1 fun b hb o e => k b o (d1 b hb) e, (D2 A hA).frame _ _ _ st2 fun b hb o e => k b o (d2 b hb) e⟩
      item := fun i s1 Q1 E1 hi st _ hQ => by
        obtain ⟨⟨f0, f1, ok, hz⟩, hTI, ⟨x, y, hTO⟩, st1, st2⟩ := st
        refine next_zip S (D1 A.in1 hA) (D2 A.in1 hA) hz ok hTI hTO st1 st2 (by omega) (by omega) fun x1 x2 h' tk g0 g1 b1 b2 p1 p2 ok' hz' hTO' u1 u2 hT _ k => ?_
        exact hQ _ x1 x2 h' tk ⟨p1, p2⟩ (.inl ⟨_, hT, rfl, _, rfl⟩) ⟨⟨g0, g1, ok', hz'⟩, k _ _ S.TIz S.TITO S.TIi1 S.TIi2 hTI, ⟨b1, b2, hTO'⟩, u1, u2⟩
          fun c o hc e => k c o (fun q => hc (by simp [q])) (fun q => hc (by simp [q])) (fun q => hc (by simp [q])) (fun q => hc (by simp [q])) e
      done := fun s1 Q1 E1 st hQ => by
        obtain ⟨⟨f0, f1, ok, hz⟩, hTI, ⟨x, y, hTO⟩, st1, st2⟩ := st
        exact next_zip_end S (D1 A.in1 hA) (D2 A.in1 hA) hz ok hTI hTO st1 st2 (by omega) (by omega) (by omega) fun h' tk k => hQ h' tk fun c o hc e =>
          k c o (fun q => hc (by simp [q])) (fun q => hc (by simp [q])) (fun q => hc (by simp [q])) (fun q => hc (by simp [q])) e }
end
section
variable {X : Cx}
theorem keys_of {P : Program} {w : World} : ∀ {kvs : List (Key × V)} {us vs : List Value}, Vals (kvs.map fun k => kV k.1) us → Vals (kvs.map (·.2)) vs → ∃ prs : List (Key × Value), KV kvs prs ∧ prs.length = kvs.length ∧ ∀ (i : Nat) (u v : Value), us[i]? = some u → vs[i]? = some v → ∃ k, prs[i]? = some (k, v) ∧ (mixKind P w).is k u = true
  | [], _, _, .nil, .nil => ⟨[], .nil, rfl, fun i u v e _ => by simp at e⟩
  | kv :: r, u :: us, v :: vs, .cons h1 t1, .cons h2 t2 => by
    obtain ⟨prs, a, b, c⟩ := keys_of (P := P) (w := w) (kvs := r) t1 t2
    refine ⟨(kv.1, v) :: prs, .cons ⟨rfl, h2⟩ a, by rw [List.length_cons, List.length_cons, b], fun i u' v' e1 e2 => ?_⟩
    cases i with
    | zero =>
      obtain rfl : u = u' := Option.some.inj e1
      obtain rfl : v = v' := Option.some.inj e2
      exact ⟨kv.1, rfl, kV_is (P := P) (w := w) h1⟩
    | succ i =>
      obtain ⟨k, f1, f2⟩ := c i u' v' (by simpa using e1) (by simpa using e2)
      exact ⟨k, by simpa using f1, f2⟩
/-- dict(zip(a, b)), two tuples of one length -/
def tDictZip2 (K : PySem.W.Frag) (ta : TA) : TE := fun σ H Q => ta σ H fun vs H1 => ∃ (a b : Addr) (kvs : List (Key × V)), vs = [.ref a, .ref b] ∧ SqT K H1 a (kvs.map fun k => kV k.1) ∧ SqT K H1 b (kvs.map (·.2)) ∧ ∀ q, H1 q = none → Q (.ref q) (upd H1 q (.dK (mergeK [] kvs)))
theorem pe_dictZip2 (K : PySem.W.Frag) (eK : X.K = K) (hc : X.calm = true) {e e2 : Expr} {ta : TA} {p p2 q pos : Pos} (hg : Gl X "dict") (hm : X.mg "dict" = none) (bt : bootBuiltins "dict" = some (.type "dict")) (hg2 : Gl X "zip") (hm2 : X.mg "zip" = none) (ha : PA X [e, e2] ta)
    (hs : starEach [e, e2] X.env = (false, eval e X.env) :: starEach [e2] X.env := by rfl) (hpl : (backTo q (starEach [e2] X.env)).any (·.1) = false := by rfl)
    (hso : starEach [.Call (.Name "zip" p2) [e, e2] [] q] X.env = (false, eval (.Call (.Name "zip" p2) [e, e2] [] q) X.env) :: starEach [] X.env := by rfl) :
    PE X (.Call (.Name "dict" p) [.Call (.Name "zip" p2) [e, e2] [] q] [] pos) (tDictZip2 K ta) := by
  subst eK
  refine ⟨fun pins s σ H Q I h => ?_⟩
  refine Call_ (ld_blt I hg hm bt ?_)
  refine PyProof.Rows.callWith_type1 (PyProof.Rows.args_cons ?_ hso) hso rfl
  refine Call_ (ld_blt I hg2 hm2 PyProof.Rows.boot_zip (PyProof.Rows.callWith_type1 (thn (ha.run q pins s σ H _ I h) fun us s1 ⟨vs, H1, I1, r1, q1⟩ => ?_) hs hpl))
  obtain ⟨a, b, kvs, ex, hx, hy, q1⟩ := q1
  subst ex
  cases r1 with
  | cons r rr =>
    cases rr with
    | cons r' rr =>
      cases rr
      cases r
      cases r'
      obtain ⟨its, rv, p1, _⟩ := I1.tuple hx
      obtain ⟨its2, rv2, p2', hz2⟩ := I1.tuple hy
      have al : a < s1.heap.objs.size := by
        obtain ⟨o, m, _⟩ := id p1
        exact Heap.lt_size m
      have bl : b < s1.heap.objs.size := by
        obtain ⟨o, m, _⟩ := id p2'
        exact Heap.lt_size m
      have l1 := rv.length
      have l2 := rv2.length
      rw [List.length_map] at l1 l2
      obtain ⟨prs, rel, pl, pk⟩ := keys_of (P := X.prog) (w := X.w) rv rv2
      refine zip_begins2 (begins_tuple a its.toArray) (begins_tuple b its2.toArray) (show s1.heap.IsTuple a its.toArray from p1) (show s1.heap.IsTuple b its2.toArray from p2') fun h' hz hTI hTO h1 h2 sz k => ?_
      refine PyProof.Rows.args_nil ?_
      have I2 : Inv X pins σ H1 { s1 with heap := h' } := I1.kept (t' := s1.toks) k
      have S := zip_sep2 (N := s1.heap.objs.size) (fp1 := [a]) (fp2 := [b]) (fun c hc => by rw [List.mem_singleton.mp hc]; exact al) (fun c hc => by rw [List.mem_singleton.mp hc]; exact bl)
      have P := zipArg (prog := X.prog) (w := X.w) X.A (I2.ok.hd hc) S (n1 := its.toArray.size) (n2 := its2.toArray.size) (fun A hA => Draws.tuple (A := A) hA s1.heap.objs.size a (Nat.ne_of_lt al) its.toArray) (fun A hA => Draws.tuple (A := A) hA (s1.heap.objs.size + 1) b (Nat.ne_of_lt (Nat.lt_succ_of_lt bl)) its2.toArray)
        (fun i h st c hc => by
          rcases List.mem_cons.mp hc with q | q
          · obtain ⟨o, m, _⟩ := st.1
            exact ⟨o, q ▸ m⟩
          · obtain ⟨o, m, _⟩ := st.2
            exact ⟨o, (List.mem_singleton.mp q) ▸ m⟩)
        (fun i h st c hc => by
          rcases List.mem_cons.mp hc with q | q
          · obtain ⟨o, m, _⟩ := st.1
            exact ⟨o, q ▸ m⟩
          · obtain ⟨o, m, _⟩ := st.2
            exact ⟨o, (List.mem_singleton.mp q) ▸ m⟩)
      have z1 : its.toArray.size = kvs.length := by simp; omega
      have z2 : its2.toArray.size = kvs.length := by simp; omega
      have ff : ∀ c ∈ [s1.heap.objs.size + 4, s1.heap.objs.size + 3, s1.heap.objs.size, s1.heap.objs.size + 1], FpOk X pins H1 c := fun c hc => by
        have e' : c = s1.heap.objs.size + 4 ∨ c = s1.heap.objs.size + 3 ∨ c = s1.heap.objs.size ∨ c = s1.heap.objs.size + 1 := by simpa using hc
        have hle : s1.heap.objs.size ≤ c := by
          rcases e' with z | z | z | z
          · rw [z]; exact Nat.le_add_right _ _
          · rw [z]; exact Nat.le_add_right _ _
          · rw [z]; exact Nat.le_refl _
          · rw [z]; exact Nat.le_add_right _ _
        exact I1.fpOk hle (I1.hok.fresh hle)
      refine PySem.call_dict_pairs (s := { s1 with heap := h' }) (knd := mixKind X.prog X.w) (kvs := prs) P (I2.ok.hd hc) ⟨⟨_, _, .free false, hz⟩, hTI, ⟨_, _, hTO⟩, ⟨⟨_, h1, rfl, rfl⟩, (show s1.heap.IsTuple a its.toArray from p1).at fun o e => k _ o e⟩, ⟨⟨_, h2, rfl, rfl⟩, (show s1.heap.IsTuple b its2.toArray from p2').at fun o e => k _ o e⟩⟩
        ⟨by rw [z1, z2, Nat.min_self]; exact pl, fun i key v e => pk i key v (by simpa using e.1) (by simpa using e.2)⟩ (by rw [z1, z2, Nat.min_self, ← List.length_map (f := fun x : Key × V => x.2)]; exact hz2) fun h3 tk hd kk => ?_
      have nm : (h'.objs.size == sysModules) = false := beq_eq_false_iff_ne.mpr (Nat.ne_of_gt I2.big)
      have hlen : (mergeK [] kvs).length ≤ sizeLine := by
        refine Nat.le_trans (length_mergeK kvs []) ?_
        rw [List.length_nil, Nat.zero_add, ← List.length_map (f := fun x : Key × V => x.2)]
        exact hz2
      have nH : H1 h'.objs.size = none := I2.hok.fresh (Nat.le_refl _)
      exact ⟨.ref h'.objs.size, upd H1 h'.objs.size (.dK (mergeK [] kvs)), I2.turnedNew (t' := tk) (ch := [s1.heap.objs.size + 4, s1.heap.objs.size + 3, s1.heap.objs.size, s1.heap.objs.size + 1]) (fun c o hc e => kk c o hc e) ff (Nat.le_refl _)
        (show ObjOk X.prog X.w _ _ _ (.dK (mergeK [] kvs)) from ⟨hlen, nm, PySem.merged [] prs, KV.merge rel .nil, hd⟩), rfl, q1 _ nH⟩
end
/-- t < u, tuples of whole numbers -/
def lexLt : List Int → List Int → Bool
  | _, [] => false
  | [], _ :: _ => true
  | x :: xs, y :: ys => if x = y then lexLt xs ys else decide (x < y)
def rLtT (K : PySem.W.Frag) : R2 := fun x y H Q => ∃ (a b : Addr) (ns ms : List Int), x = .ref a ∧ y = .ref b ∧ SqT K H a (ns.map V.int) ∧ SqT K H b (ms.map V.int) ∧
  Q (.bl (Ob.lexAt (fun j => decide (ns.getD j 0 = ms.getD j 0)) (fun j => decide (ns.getD j 0 < ms.getD j 0)) (decide (ns.length < ms.length)) 0 (min ns.length ms.length))) H
theorem op_ltT {X : Cx} (hu : X.A.units < cLine) : OpR X (compareOp .Lt) (rLtT X.K) := by
  intro pins s σ H x y v u Q I rx ry h
  obtain ⟨a, b, ns, ms, rfl, rfl, ha, hb, q⟩ := h
  cases rx
  cases ry
  obtain ⟨l1, r1, p1, _⟩ := I.tuple ha
  obtain ⟨l2, r2, p2, _⟩ := I.tuple hb
  have i1 : IntsAre l1 ns := Vals.ints r1
  have i2 : IntsAre l2 ms := Vals.ints r2
  have e1 : l1.toArray.size = ns.length := (List.size_toArray ..).trans i1.length
  have e2 : l2.toArray.size = ms.length := (List.size_toArray ..).trans i2.length
  have at1 : ∀ j (q : j < l1.toArray.size), ∃ t, l1.toArray[j] = .int (ns.getD j 0) t := fun j q => IntsAre.int_at i1 _ _ (by simp at q; simp [q])
  have at2 : ∀ j (q : j < l2.toArray.size), ∃ t, l2.toArray[j] = .int (ms.getD j 0) t := fun j q => IntsAre.int_at i2 _ _ (by simp at q; simp [q])
  have R := Ob.RcOp.tuples_lt (s := s) (A := X.A) (r := fun j => decide (ns.getD j 0 < ms.getD j 0)) (e := fun j => decide (ns.getD j 0 = ms.getD j 0)) p1 p2 hu (fun j q1 q2 => by
    obtain ⟨t, c1⟩ := at1 j q1
    obtain ⟨t', c2⟩ := at2 j q2
    have z : (ns.getD j 0 == ms.getD j 0) = decide (ns.getD j 0 = ms.getD j 0) := by
      by_cases c : ns.getD j 0 = ms.getD j 0
      · exact (beq_iff_eq.mpr c).trans (decide_eq_true c).symm
      · exact (beq_eq_false_iff_ne.mpr c).trans (decide_eq_false c).symm
    rw [c1, c2, ← z]
    exact SeqAt.EqAt.int_int _ _ _ _) (fun j q1 q2 _ => by
    obtain ⟨t, c1⟩ := at1 j q1
    obtain ⟨t', c2⟩ := at2 j q2
    rw [c1, c2]
    exact Ob.RcOp.lt_int _ _ _ _)
  rw [e1, e2] at R
  exact R X.prog X.w X.xe (EP X pins σ Q) ⟨.bl _, H, I, rfl, q⟩
end Far

namespace Far
open PySem PySem.Spec PyProof.Rows PyProof.V L2
theorem kv_vals17 : ∀ {kvs : List (Key × V)} {vs : List (Key × Value)}, KV kvs vs → Vals (kvs.map (·.2)) (vs.map (·.2))
  | [], [], .nil => .nil
  | _ :: _, _ :: _, .cons h t => .cons h.2 (kv_vals17 t)
/-- max(d.values()), the values whole numbers -/
def tMaxVals (te : TE) : TE := fun σ H Q => te σ H fun x H1 => ∃ (d : Addr) (kvs : List (Key × V)) (ns : List Int), x = .ref d ∧ H1 d = some (.dK kvs) ∧ kvs.map (·.2) = ns.map V.int ∧ 0 < ns.length ∧ ∀ m, m ∈ ns → (∀ y, y ∈ ns → y ≤ m) → Q (.int m) H1
theorem pe_maxVals {X : Cx} {e : Expr} {te : TE} {p pos apos cpos : Pos} (hc : X.calm = true) (he : PE X e te) (hg : Gl X "max") (hm : X.mg "max" = none) (hv : bootBuiltins "max" = some (.builtin "max"))
    (hbase : attributeBase e "values" X.env (eval e X.env) = eval e X.env := by rfl) (hline : (apos.endLine == cpos.line) = true := by rfl)
    (hs : starEach [.Call (.Attribute e "values" apos) [] [] cpos] X.env = (false, eval (.Call (.Attribute e "values" apos) [] [] cpos) X.env) :: starEach [] X.env := by rfl) :
    PE X (.Call (.Name "max" p) [.Call (.Attribute e "values" apos) [] [] cpos] [] pos) (tMaxVals te) := by
  refine ⟨fun pins s σ H Q I hq => ?_⟩
  refine wpAny_Call_Name_kw (ld_blt I hg hm hv ?_)
  refine PyProof.Rows.callWith_builtin1 ?_ hs rfl
  rw [hs]
  show wpAny _ _ (spliced ((false, eval (.Call (.Attribute e "values" apos) [] [] cpos) X.env) :: backTo pos (starEach [] X.env))) _ _ s
  refine Calls.spliced_cons ?_
  refine wpAny_Call_method (T := "dict") (id := "dict.values") hbase rfl hline F.plainAttrs_dict F.slot_dict_values F.type_dict_values (thn (he.run pins s σ H _ I hq) fun u s1 ⟨x, H1, I1, rx, d, kvs, ns, ex, hd, en, n0, q⟩ => ?_)
  subst ex
  obtain rfl : u = Value.ref d := rx
  obtain ⟨hz, hs0, vs, kv, hdo⟩ := I1.hok d _ hd
  obtain ⟨ep, hat⟩ := hdo.dictAt
  have lk : kvs.length = vs.length := Paired.length kv
  have I2 : Inv X pins σ H1 { s1 with heap := s1.heap.push { cls := .type "dict_values", data := .fields #[.ref d] } } := I1.kept (t' := s1.toks) fun b ob q => Heap.get?_push_of_some _ q
  refine ⟨hdo.typeIs, hdo.mapOf.noDict, ?_⟩
  show wpAny _ _ (callWith cpos (.builtin "dict.values") [.ref d] [] []) _ X.xe s1
  refine method_meetsIn F.slot_dict_values F.entry_dict_values rfl (PySem.evalArgs_none ⟨rfl, hdo.typeIs, F.args_dict_values_1 _, _, meets_dict_values (mixKind X.prog X.w) d hs0, ⟨vs, hdo⟩, ?_⟩)
  refine Calls.spliced_nil ?_
  have rv := kv_vals17 kv
  rw [en] at rv
  have hi := rv.ints
  obtain ⟨xs, exs⟩ := hi.allInts.items
  have hn : numsOf (intItems xs).toList = ns := by rw [← exs]; exact hi.numsOf
  rw [nums_intItems] at hn
  subst hn
  have hz2 : 0 < xs.size := by simpa using n0
  have vx : vs.length = xs.size := by
    have := congrArg Array.size exs
    simpa [intItems] using this
  have hdl : d < s1.heap.objs.size := hat.lt_size
  refine call_max_walk (wpAny_pyIter_values (v := s1.heap.objs.size) (d := d) (kvs := vs) (ep := ep) ⟨_, Heap.get?_push_size _ rfl, rfl, rfl⟩ (hat.push _) ?_)
  have hI2 := I2.ok.hd hc
  have hat2 := hat.push { cls := .type "dict_values", data := .fields #[.ref d] }
  have dI : d ≠ (s1.heap.push { cls := .type "dict_values", data := .fields #[.ref d] }).objs.size := by
    rw [Heap.size_push]
    exact Nat.ne_of_lt (Nat.lt_succ_of_lt hdl)
  refine ⟨_, _, _, _, _, _, fun i j => decide (numAt xs i > numAt xs j), rfl, Walks.dictValues (A := X.A.in1) (I1.ok.hd hc) _ d dI vs ep, ⟨⟨_, Heap.get?_push_size _ rfl, rfl, rfl⟩, hat2.push _⟩, fun b hb => ?_, by omega, CmpOf.ints_gt (numAt xs) (fun i v hv => ?_), fun v h' tk hP hk => ?_⟩
  · show b < ((s1.heap.push _).push _).objs.size
    rw [Heap.size_push]
    rcases List.mem_cons.mp hb with rfl | hb
    · exact Nat.lt_succ_self _
    · rw [List.mem_singleton.mp hb, Heap.size_push]
      exact Nat.lt_succ_of_lt (Nat.lt_succ_of_lt hdl)
  · obtain ⟨k, hk⟩ := hv
    refine intItems_at (v := v) ?_
    rw [← exs, List.getElem?_toArray, List.getElem?_map, hk]
    rfl
  · obtain ⟨k, hk2⟩ := hP
    have e2 : (intItems xs)[argBest (fun i j => decide (numAt xs i > numAt xs j)) (vs.length - 1)]? = some v := by
      rw [← exs, List.getElem?_toArray, List.getElem?_map, hk2]
      rfl
    obtain ⟨t, rfl⟩ := intItems_at e2
    rw [vx]
    obtain ⟨h1, h2⟩ := argBest_gt (numAt xs) (xs.size - 1)
    refine ⟨.int _, H1, I2.kept (t' := tk) ?_, ⟨_, rfl⟩, q _ ?_ fun a ha => ?_⟩
    · exact fun b o' e => hk b o' (fun hb => absurd (Heap.lt_size e) ((List.mem_singleton.mp hb) ▸ Nat.lt_irrefl _)) (Heap.get?_push_of_some _ e)
    · rw [numAt_eq]
      exact PySem.getD_mem (by rw [List.length_map, Array.length_toList]; omega)
    · obtain ⟨j, hj, rfl⟩ := mem_getD ha
      rw [List.length_map, Array.length_toList] at hj
      rw [← numAt_eq]
      exact h2 j (by omega)
end Far

namespace Far
open PySem PySem.Spec PyProof.Rows L2
open SX (S)
theorem IsTree.hang {pl : List Nm} {ts : List Tie} {a b : Nm} {k : Int} {e : Tie} (h : IsTree pl ts) (ha : a ∈ pl) (hb : b ∉ pl) (he : e = (a, b, k) ∨ e = (b, a, k)) (k1 : 1 ≤ k) (k2 : k ≤ 1000000) : IsTree (pl ++ [b]) (ts ++ [e]) := by
  obtain ⟨os, es, g, p, q⟩ := h
  exact ⟨os ++ [b], es ++ [e], .leaf g (p.mem_iff.mp ha) (fun z => hb (p.mem_iff.mpr z)) he k1 k2, p.append_right _, q.append_right _⟩
theorem IsTree.perm {pl pl' : List Nm} {ts ts' : List Tie} (h : IsTree pl ts) (p : pl'.Perm pl) (q : ts'.Perm ts) : IsTree pl' ts' := by
  obtain ⟨os, es, g, p', q'⟩ := h
  exact ⟨os, es, g, p.trans p', q.trans q'⟩
/-- a tree hung on another -/
theorem Grown.hung {os : List Nm} {es : List Tie} (g : Grown os es) : ∀ {pl : List Nm} {ts : List Tie}, IsTree pl ts → (∀ z ∈ os, z ∉ pl) → ∀ {x y : Nm} {k : Int} {e : Tie}, x ∈ pl → y ∈ os → (e = (x, y, k) ∨ e = (y, x, k)) → 1 ≤ k → k ≤ 1000000 → IsTree (pl ++ os) (ts ++ es ++ [e]) := by
  induction g with
  | one a =>
    intro pl ts h dis x y k e hx hy he k1 k2
    have ey := List.mem_singleton.mp hy
    subst ey
    rw [List.append_nil]
    exact h.hang hx (dis y hy) he k1 k2
  | @leaf os es a b k' e' g ha hb he' k1' k2' ih =>
    intro pl ts h dis x y k e hx hy he k1 k2
    have dis' : ∀ z ∈ os, z ∉ pl := fun z hz => dis z (List.mem_append_left _ hz)
    have bn : b ∉ pl := dis b (List.mem_append_right _ (List.mem_singleton.mpr rfl))
    rcases List.mem_append.mp hy with hy | hy
    · have t1 := ih h dis' hx hy he k1 k2
      have t2 := t1.hang (a := a) (b := b) (e := e') (List.mem_append_right _ ha) (fun z => (List.mem_append.mp z).elim bn hb) he' k1' k2'
      refine t2.perm (by rw [List.append_assoc]) ?_
      rw [List.append_assoc, List.append_assoc, List.append_assoc, List.append_assoc]
      refine List.Perm.append_left _ (List.Perm.append_left _ ?_)
      exact List.perm_append_comm
    · have ey := List.mem_singleton.mp hy
      subst ey
      have t1 := h.hang hx bn he k1 k2
      have t2 := ih t1 (fun z hz w => (List.mem_append.mp w).elim (dis' z hz) fun q => hb (List.mem_singleton.mp q ▸ hz)) (x := y) (y := a) (k := k') (e := e') (List.mem_append_right _ (List.mem_singleton.mpr rfl)) ha he'.symm k1' k2'
      refine t2.perm ?_ ?_
      · rw [List.append_assoc]
        exact List.Perm.append_left _ List.perm_append_comm
      · have e1 : ts ++ (es ++ [e']) ++ [e] = ts ++ (es ++ [e'] ++ [e]) := by simp
        have e2 : ts ++ [e] ++ es ++ [e'] = ts ++ ([e] ++ (es ++ [e'])) := by simp
        rw [e1, e2]
        exact List.Perm.append_left _ List.perm_append_comm
theorem IsTree.joined {pl pl' : List Nm} {ts ts' : List Tie} (h : IsTree pl ts) (h' : IsTree pl' ts') (dis : ∀ z ∈ pl, z ∉ pl') {x y : Nm} {k : Int} (hx : x ∈ pl) (hy : y ∈ pl') (k1 : 1 ≤ k) (k2 : k ≤ 1000000) : IsTree (pl ++ pl') (ts ++ ts' ++ [(x, y, k)]) := by
  obtain ⟨os, es, g, p, q⟩ := h'
  have := g.hung h (fun z hz w => dis z w (p.mem_iff.mpr hz)) hx (p.mem_iff.mp hy) (.inl rfl) k1 k2
  exact this.perm (List.Perm.append_left _ p) (by
    rw [List.append_assoc, List.append_assoc]
    exact List.Perm.append_left _ (q.append_right _))
def Among (es ts : List Tie) : Prop := ∀ x y k, Adj es x y k → Adj ts x y k
theorem Way.among {es ts : List Tie} (s : Among es ts) {u v : Nm} {p : List Nm} {L : Int} (h : Way es u v p L) : Way ts u v p L := by
  induction h with
  | nil => exact .nil
  | snoc _ ha hn ih => exact .snoc ih (s _ _ _ ha) hn
theorem dist_among {hs pl : List Nm} {es ts : List Tie} (h : IsTree hs es) (h' : IsTree pl ts) (s : Among es ts) {u v : Nm} (hu : u ∈ hs) (hv : v ∈ hs) : dist es u v = dist ts u v := ((h'.is_way ((h.the_way hu hv).among s)).2).symm
section
variable {pl pl' : List Nm} {ts ts' : List Tie} {x y : Nm} {k : Int}
theorem dist_left (h : IsTree pl ts) (hJ : IsTree (pl ++ pl') (ts ++ ts' ++ [(x, y, k)])) {u v : Nm} (hu : u ∈ pl) (hv : v ∈ pl) : dist (ts ++ ts' ++ [(x, y, k)]) u v = dist ts u v :=
  (dist_among h hJ (fun a b l z => z.elim (fun q => .inl (by simp [q])) fun q => .inr (by simp [q])) hu hv).symm
theorem dist_right (h' : IsTree pl' ts') (hJ : IsTree (pl ++ pl') (ts ++ ts' ++ [(x, y, k)])) {u v : Nm} (hu : u ∈ pl') (hv : v ∈ pl') : dist (ts ++ ts' ++ [(x, y, k)]) u v = dist ts' u v :=
  (dist_among h' hJ (fun a b l z => z.elim (fun q => .inl (by simp [q])) fun q => .inr (by simp [q])) hu hv).symm
theorem dist_cross (h : IsTree pl ts) (h' : IsTree pl' ts') (hJ : IsTree (pl ++ pl') (ts ++ ts' ++ [(x, y, k)])) (dis : ∀ z ∈ pl, z ∉ pl') (hx : x ∈ pl) (hy : y ∈ pl') {u v : Nm} (hu : u ∈ pl) (hv : v ∈ pl') : dist (ts ++ ts' ++ [(x, y, k)]) u v = dist ts u x + k + dist ts' y v := by
  have w1 := (h.the_way hu hx).among (ts := ts ++ ts' ++ [(x, y, k)]) fun a b l z => z.elim (fun q => .inl (by simp [q])) fun q => .inr (by simp [q])
  have w2 := (h'.the_way hy hv).among (ts := ts ++ ts' ++ [(x, y, k)]) fun a b l z => z.elim (fun q => .inl (by simp [q])) fun q => .inr (by simp [q])
  have i1 := (h.the_way hu hx).inside (fun e he => ⟨(h.ties e he).1, (h.ties e he).2.1⟩) hu
  have i2 := (h'.the_way hy hv).inside (fun e he => ⟨(h'.ties e he).1, (h'.ties e he).2.1⟩) hy
  have w3 := Way.snoc w1 (w := y) (k := k) (.inl (by simp)) fun z => dis y (i1 y z) hy
  exact (hJ.is_way (w3.join w2 fun z hz hz' => dis z (i1 z hz') (i2 z hz))).2
theorem rch_in (h : IsTree pl ts) {u : Nm} (hu : u ∈ pl) : (∃ v ∈ pl, dist ts u v = rch pl ts u) ∧ ∀ v ∈ pl, dist ts u v ≤ rch pl ts u := by
  obtain ⟨a, b⟩ := mxG_in (l := pl.map fun x => dist ts u x) (fun z => by rw [List.map_eq_nil_iff] at z; rw [z] at hu; cases hu)
  obtain ⟨v, hv, e⟩ := List.mem_map.mp a
  exact ⟨⟨v, hv, e⟩, fun v hv => b _ (List.mem_map.mpr ⟨v, hv, rfl⟩)⟩
theorem mx_in (h : IsTree pl ts) (ne : pl ≠ []) : (∃ u ∈ pl, ∃ v ∈ pl, dist ts u v = mxG (pl.map (rch pl ts))) ∧ ∀ u ∈ pl, ∀ v ∈ pl, dist ts u v ≤ mxG (pl.map (rch pl ts)) := by
  obtain ⟨a, b⟩ := mxG_in (l := pl.map (rch pl ts)) (fun z => ne (List.map_eq_nil_iff.mp z))
  obtain ⟨u, hu, e⟩ := List.mem_map.mp a
  obtain ⟨⟨v, hv, e2⟩, _⟩ := rch_in h hu
  refine ⟨⟨u, hu, v, hv, e2.trans e⟩, fun u hu v hv => Int.le_trans ((rch_in h hu).2 v hv) (b _ (List.mem_map.mpr ⟨u, hu, rfl⟩))⟩
/-- the greatest length in a joined tree -/
theorem joined_top (h : Fine pl ts) (h' : Fine pl' ts') (dis : ∀ z ∈ pl, z ∉ pl') (hx : x ∈ pl) (hy : y ∈ pl') (k1 : 1 ≤ k) (k2 : k ≤ 1000000) {m : Int}
    (m1 : ∃ u ∈ pl ++ pl', ∃ v ∈ pl ++ pl', dist (ts ++ ts' ++ [(x, y, k)]) u v = m) (m2 : ∀ u ∈ pl ++ pl', ∀ v ∈ pl ++ pl', dist (ts ++ ts' ++ [(x, y, k)]) u v ≤ m) : m = (joinT pl pl' ts ts' k x y).1 := by
  have hJ := h.tree.joined h'.tree dis hx hy k1 k2
  obtain ⟨⟨u1, hu1, v1, hv1, e1⟩, a2⟩ := mx_in h.tree h.ne
  obtain ⟨⟨u2, hu2, v2, hv2, e2⟩, b2⟩ := mx_in h'.tree h'.ne
  obtain ⟨⟨ux, hux, ex⟩, rx⟩ := rch_in h.tree hx
  obtain ⟨⟨vy, hvy, ey⟩, ry⟩ := rch_in h'.tree hy
  have L := fun {u v} => dist_left (u := u) (v := v) h.tree hJ
  have R := fun {u v} => dist_right (u := u) (v := v) h'.tree hJ
  have X := fun {u v} => dist_cross (u := u) (v := v) h.tree h'.tree hJ dis hx hy
  have g1 := m2 u1 (List.mem_append_left _ hu1) v1 (List.mem_append_left _ hv1)
  rw [L hu1 hv1, e1] at g1
  have g2 := m2 u2 (List.mem_append_right _ hu2) v2 (List.mem_append_right _ hv2)
  rw [R hu2 hv2, e2] at g2
  have g3 := m2 ux (List.mem_append_left _ hux) vy (List.mem_append_right _ hvy)
  rw [X hux hvy, (h.tree.dist_symm hux hx).1, ex, ey] at g3
  have cr : ∀ u ∈ pl, ∀ v ∈ pl', dist (ts ++ ts' ++ [(x, y, k)]) u v ≤ rch pl ts x + k + rch pl' ts' y := fun u hu v hv => by
    rw [X hu hv, (h.tree.dist_symm hu hx).1]
    have := rx u hu
    have := ry v hv
    omega
  have up : m ≤ mxG (pl.map (rch pl ts)) ∨ m ≤ mxG (pl'.map (rch pl' ts')) ∨ m ≤ rch pl ts x + k + rch pl' ts' y := by
    obtain ⟨u, hu, v, hv, rfl⟩ := m1
    rcases List.mem_append.mp hu with hu | hu <;> rcases List.mem_append.mp hv with hv | hv
    · rw [L hu hv]
      exact .inl (a2 u hu v hv)
    · exact .inr (.inr (cr u hu v hv))
    · rw [(hJ.dist_symm (List.mem_append_right _ hu) (List.mem_append_left _ hv)).1]
      exact .inr (.inr (cr v hv u hu))
    · rw [R hu hv]
      exact .inr (.inl (b2 u hu v hv))
  show m = mx2 (mx2 (mxG (pl.map (rch pl ts))) (mxG (pl'.map (rch pl' ts')))) (rch pl ts x + k + rch pl' ts' y)
  unfold mx2
  split <;> split at * <;> omega
end
end Far

namespace Far
open PySem PySem.Spec PyProof.Rows L2
open SX (S)
/-! ### the greatest length -/
section
variable {pl : List Nm} {ts : List Tie}
end
theorem pair_mem {pl : List Nm} {ts : List Tie} {i j : Nat} {x y : Nm} (hx : pl[i]? = some x) (hy : pl[j]? = some y) (ij : i < j) : (dist ts x y, x, y) ∈ pairsOf pl ts := by
  unfold pairsOf prs
  have il := (List.getElem?_eq_some_iff.mp hx).1
  refine List.mem_flatMap.mpr ⟨i, List.mem_range.mpr il, ?_⟩
  obtain ⟨k, rfl⟩ : ∃ k, j = i + 1 + k := ⟨j - (i + 1), by omega⟩
  exact List.mem_of_getElem? (rowP_at hx hy)
theorem top_ge (pl : List Nm) (ts : List Tie) : 0 ≤ (topOf pl ts).1 ∧ ∀ y ∈ pairsOf pl ts, y.1 ≤ (topOf pl ts).1 := by
  unfold topOf
  rcases topT_is (pairsOf pl ts) (0, pl.headD [], pl.headD []) with ⟨h1, h2⟩ | ⟨h1, _, h3⟩
  · rw [h1]
    exact ⟨Int.le_refl _, h2⟩
  · exact ⟨Int.le_of_lt h1, h3⟩
theorem top_max {pl : List Nm} {ts : List Tie} (F : Fine pl ts) {u v : Nm} (hu : u ∈ pl) (hv : v ∈ pl) : dist ts u v ≤ (topOf pl ts).1 := by
  obtain ⟨z, all⟩ := top_ge pl ts
  obtain ⟨i, hi⟩ := List.getElem?_of_mem hu
  obtain ⟨j, hj⟩ := List.getElem?_of_mem hv
  rcases Nat.lt_trichotomy i j with h | h | h
  · exact all _ (pair_mem hi hj h)
  · subst h
    have e : u = v := Option.some.inj (hi.symm.trans hj)
    rw [e, (F.tree.dist_self v).1]
    exact z
  · rw [(F.tree.dist_symm hu hv).1]
    exact all _ (pair_mem hj hi h)
/-! ### a tie taken out -/
theorem Grown.cut2 {os : List Nm} {es : List Tie} (g : Grown os es) : ∀ e ∈ es, ∃ (ps qs : List Nm) (e1 e2 : List Tie), IsTree ps e1 ∧ IsTree qs e2 ∧ os.Perm (ps ++ qs) ∧ es.Perm (e :: (e1 ++ e2)) ∧ e.1 ∈ ps ∧ e.2.1 ∈ qs := by
  induction g with
  | one a => intro e he; cases he
  | @leaf os es a b k e0 g ha hb he0 k1 k2 ih =>
    intro e he
    rcases List.mem_append.mp he with z | z
    · obtain ⟨ps, qs, e1, e2, t1, t2, pp, pe, m1, m2⟩ := ih e z
      have bn : b ∉ ps ++ qs := fun w => hb (pp.mem_iff.mpr w)
      have b1 : b ∉ ps := fun w => bn (List.mem_append_left _ w)
      have b2 : b ∉ qs := fun w => bn (List.mem_append_right _ w)
      rcases List.mem_append.mp (pp.mem_iff.mp ha) with w | w
      · refine ⟨ps ++ [b], qs, e1 ++ [e0], e2, t1.hang w b1 he0 k1 k2, t2, ?_, ?_, List.mem_append_left _ m1, m2⟩
        · refine (pp.append_right _).trans ?_
          rw [List.append_assoc, List.append_assoc]
          exact List.Perm.append_left _ List.perm_append_comm
        · refine (pe.append_right _).trans ?_
          rw [List.cons_append]
          refine List.Perm.cons _ ?_
          rw [List.append_assoc, List.append_assoc]
          exact List.Perm.append_left _ List.perm_append_comm
      · refine ⟨ps, qs ++ [b], e1, e2 ++ [e0], t1, t2.hang w b2 he0 k1 k2, ?_, ?_, m1, List.mem_append_left _ m2⟩
        · rw [← List.append_assoc]
          exact pp.append_right _
        · rw [← List.append_assoc, ← List.cons_append]
          exact pe.append_right _
    · have ee := List.mem_singleton.mp z
      subst ee
      have T : IsTree os es := ⟨os, es, g, .refl _, .refl _⟩
      have B : IsTree [b] [] := ⟨[b], [], .one b, .refl _, .refl _⟩
      rcases he0 with q | q
      · refine ⟨os, [b], es, [], T, B, .refl _, ?_, by rw [q]; exact ha, by rw [q]; exact List.mem_singleton.mpr rfl⟩
        rw [List.append_nil]
        exact List.perm_append_comm
      · refine ⟨[b], os, [], es, B, T, List.perm_append_comm, ?_, by rw [q]; exact List.mem_singleton.mpr rfl, by rw [q]; exact ha⟩
        exact List.perm_append_comm
def restT (ts : List Tie) (i : Nat) : List Tie := ts.take i ++ ts.drop (i + 1)
def amT (ps : List Nm) (ts : List Tie) : List Tie := ts.filter fun t => decide (t.1 ∈ ps) && decide (t.2.1 ∈ ps)
noncomputable def nearP (pl : List Nm) (ts : List Tie) (e : Tie) : List Nm := pl.filter fun x => decide (dist ts e.1 x < dist ts e.2.1 x)
noncomputable def offP (pl : List Nm) (ts : List Tie) (e : Tie) : List Nm := pl.filter fun x => !decide (dist ts e.1 x < dist ts e.2.1 x)
theorem split_at {α : Type} {l : List α} {i : Nat} {x : α} (h : l[i]? = some x) : l = l.take i ++ x :: l.drop (i + 1) := by
  obtain ⟨il, e⟩ := List.getElem?_eq_some_iff.mp h
  have := List.take_append_drop i l
  rw [List.drop_eq_getElem_cons il, e] at this
  exact this.symm
theorem rest_perm {ts : List Tie} {i : Nat} {e : Tie} (h : ts[i]? = some e) : ts.Perm (e :: restT ts i) := by
  unfold restT
  have := split_at h
  generalize ts.take i = A at *
  generalize ts.drop (i + 1) = B at *
  rw [this]
  exact List.perm_middle
structure CutF (pl : List Nm) (ts : List Tie) (i : Nat) (e : Tie) : Prop where
  near : IsTree (nearP pl ts e) (amT (nearP pl ts e) (restT ts i))
  off : IsTree (offP pl ts e) (amT (offP pl ts e) (restT ts i))
  ma : e.1 ∈ nearP pl ts e
  mb : e.2.1 ∈ offP pl ts e
  dis : ∀ z ∈ nearP pl ts e, z ∉ offP pl ts e
  ps : (nearP pl ts e ++ offP pl ts e).Perm pl
  rs : (amT (nearP pl ts e) (restT ts i) ++ amT (offP pl ts e) (restT ts i)).Perm (restT ts i)
  k1 : 1 ≤ e.2.2
  k2 : e.2.2 ≤ 1000000
  tr : IsTree pl ts
theorem dist_perm {pl : List Nm} {ts ts' : List Tie} (h : IsTree pl ts) (p : ts'.Perm ts) {u v : Nm} (hu : u ∈ pl) (hv : v ∈ pl) : dist ts' u v = dist ts u v :=
  dist_among (h.perm (.refl _) p) h (fun x y k a => a.perm p) hu hv
theorem filter_perm_of {α : Type} [DecidableEq α] {l ps qs : List α} {f : α → Bool} (p : l.Perm (ps ++ qs)) (h1 : ∀ x ∈ ps, f x = true) (h2 : ∀ x ∈ qs, f x = false) : (l.filter f).Perm ps := by
  have q := p.filter f
  have a1 : ps.filter f = ps := List.filter_eq_self.mpr h1
  have a2 : qs.filter f = [] := List.filter_eq_nil_iff.mpr fun x hx => by rw [h2 x hx]; simp
  rw [List.filter_append, a1, a2, List.append_nil] at q
  exact q
theorem am_sub {ps : List Nm} {ts : List Tie} {i : Nat} {t : Tie} (h : t ∈ amT ps (restT ts i)) : t ∈ ts := (List.mem_append.mp (List.mem_filter.mp h).1).elim List.mem_of_mem_take List.mem_of_mem_drop
theorem IsTree.cutF {pl : List Nm} {ts : List Tie} (h : IsTree pl ts) {i : Nat} {e : Tie} (he : ts[i]? = some e) : CutF pl ts i e := by
  have hem : e ∈ ts := List.mem_of_getElem? he
  obtain ⟨_, _, k1, k2⟩ := h.ties e hem
  obtain ⟨os, es, g, p, q⟩ := id h
  obtain ⟨ps, qs, e1, e2, t1, t2, pp, pe, m1, m2⟩ := g.cut2 e (q.mem_iff.mp hem)
  have pp := p.trans pp
  have pe := q.trans pe
  have nd := h.nodup
  have nd2 : (ps ++ qs).Nodup := pp.nodup_iff.mp nd
  have dis : ∀ z ∈ ps, z ∉ qs := fun z hz hq => (List.nodup_append.mp nd2).2.2 z hz z hq rfl
  have J := t1.joined t2 dis m1 m2 k1 k2
  have Jp : ts.Perm (e1 ++ e2 ++ [(e.1, e.2.1, e.2.2)]) := pe.trans (by
    have : e :: (e1 ++ e2) = [e] ++ (e1 ++ e2) := rfl
    rw [this]
    exact List.perm_append_comm)
  have D : ∀ {u v : Nm}, u ∈ ps ++ qs → v ∈ ps ++ qs → dist ts u v = dist (e1 ++ e2 ++ [(e.1, e.2.1, e.2.2)]) u v := fun hu hv => dist_perm J Jp hu hv
  have nr : ∀ x ∈ ps, decide (dist ts e.1 x < dist ts e.2.1 x) = true := fun x hx => by
    have a1 := List.mem_append_left qs m1
    have a2 := List.mem_append_right ps m2
    have ax := List.mem_append_left qs hx
    rw [D a1 ax, D a2 ax, (J.dist_symm a2 ax).1, (J.dist_symm a1 ax).1, dist_cross t1 t2 J dis m1 m2 hx m2, dist_left t1 J hx m1, (t2.dist_self _).1]
    exact decide_eq_true (by omega)
  have nf : ∀ x ∈ qs, decide (dist ts e.1 x < dist ts e.2.1 x) = false := fun x hx => by
    have a1 := List.mem_append_left qs m1
    have a2 := List.mem_append_right ps m2
    have ax := List.mem_append_right ps hx
    rw [D a1 ax, D a2 ax, dist_cross t1 t2 J dis m1 m2 m1 hx, dist_right t2 J m2 hx, (t1.dist_self _).1]
    exact decide_eq_false (by omega)
  have np : (nearP pl ts e).Perm ps := filter_perm_of pp nr nf
  have fp : (offP pl ts e).Perm qs := filter_perm_of (pp.trans List.perm_append_comm) (fun x hx => by rw [nf x hx]; rfl) fun x hx => by rw [nr x hx]; rfl
  have rp : (restT ts i).Perm (e1 ++ e2) := ((rest_perm he).symm.trans pe).cons_inv
  have i1 : ∀ t ∈ e1, t.1 ∈ ps ∧ t.2.1 ∈ ps := fun t ht => ⟨(t1.ties t ht).1, (t1.ties t ht).2.1⟩
  have i2 : ∀ t ∈ e2, t.1 ∈ qs ∧ t.2.1 ∈ qs := fun t ht => ⟨(t2.ties t ht).1, (t2.ties t ht).2.1⟩
  have r1 : (amT (nearP pl ts e) (restT ts i)).Perm e1 := filter_perm_of rp (fun t ht => by rw [decide_eq_true (np.mem_iff.mpr (i1 t ht).1), decide_eq_true (np.mem_iff.mpr (i1 t ht).2)]; rfl) fun t ht => by rw [decide_eq_false (fun z => dis _ (np.mem_iff.mp z) (i2 t ht).1)]; rfl
  have r2 : (amT (offP pl ts e) (restT ts i)).Perm e2 := filter_perm_of (rp.trans List.perm_append_comm) (fun t ht => by rw [decide_eq_true (fp.mem_iff.mpr (i2 t ht).1), decide_eq_true (fp.mem_iff.mpr (i2 t ht).2)]; rfl) fun t ht => by rw [decide_eq_false (fun z => dis _ (i1 t ht).1 (fp.mem_iff.mp z))]; rfl
  exact ⟨t1.perm np r1, t2.perm fp r2, np.mem_iff.mpr m1, fp.mem_iff.mpr m2, fun z hz hq => dis z (np.mem_iff.mp hz) (fp.mem_iff.mp hq), (np.append fp).trans pp.symm, (r1.append r2).trans rp.symm, k1, k2, h⟩
/-- the part is one that a walk gives -/
theorem CutF.comp1 {pl : List Nm} {ts : List Tie} {i : Nat} {e : Tie} (c : CutF pl ts i e) (F : Fine pl ts) : FineC pl (restT ts i) (nearP pl ts e) (amT (nearP pl ts e) (restT ts i)) := by
  have sub : ∀ t ∈ restT ts i, t ∈ ts := fun t ht => (List.mem_append.mp ht).elim List.mem_of_mem_take List.mem_of_mem_drop
  have key : ∀ x y k t, x ∈ nearP pl ts e → t ∈ restT ts i → (t = (x, y, k) ∨ t = (y, x, k)) → t ∈ amT (nearP pl ts e) (restT ts i) := fun x y k t hx ht et => by
    rcases List.mem_append.mp (c.rs.mem_iff.mpr ht) with z | z
    · exact z
    · obtain ⟨a1, a2, _⟩ := c.off.ties t z
      rcases et with q | q <;> rw [q] at a1 a2
      · exact absurd a1 (c.dis x hx)
      · exact absurd a2 (c.dis x hx)
  refine ⟨c.near, fun x hx => (List.mem_filter.mp hx).1, fun x y k hx a => ?_, fun x y k a => ?_, F.tree.nodup, F.ok, F.len, ?_, fun t ht => ?_⟩
  · exact a.elim (fun z => .inl (key x y k _ hx z (.inl rfl))) fun z => .inr (key x y k _ hx z (.inr rfl))
  · exact a.elim (fun z => .inl (List.mem_filter.mp z).1) fun z => .inr (List.mem_filter.mp z).1
  · have h1 := F.tree.len
    have h2 := F.len
    unfold restT
    rw [List.length_append, List.length_take, List.length_drop]
    omega
  · have := F.tree.ties t (sub t ht)
    exact ⟨this.1, this.2.1⟩
theorem CutF.comp2 {pl : List Nm} {ts : List Tie} {i : Nat} {e : Tie} (c : CutF pl ts i e) (F : Fine pl ts) : FineC pl (restT ts i) (offP pl ts e) (amT (offP pl ts e) (restT ts i)) := by
  have key : ∀ x y k t, x ∈ offP pl ts e → t ∈ restT ts i → (t = (x, y, k) ∨ t = (y, x, k)) → t ∈ amT (offP pl ts e) (restT ts i) := fun x y k t hx ht et => by
    rcases List.mem_append.mp (c.rs.mem_iff.mpr ht) with z | z
    · obtain ⟨a1, a2, _⟩ := c.near.ties t z
      rcases et with q | q <;> rw [q] at a1 a2
      · exact absurd hx (c.dis x a1)
      · exact absurd hx (c.dis x a2)
    · exact z
  have C := c.comp1 F
  refine ⟨c.off, fun x hx => (List.mem_filter.mp hx).1, fun x y k hx a => ?_, fun x y k a => ?_, C.nd, C.ok, C.len, C.tlen, C.tin⟩
  · exact a.elim (fun z => .inl (key x y k _ hx z (.inl rfl))) fun z => .inr (key x y k _ hx z (.inr rfl))
  · exact a.elim (fun z => .inl (List.mem_filter.mp z).1) fun z => .inr (List.mem_filter.mp z).1
theorem CutF.fine1 {pl : List Nm} {ts : List Tie} {i : Nat} {e : Tie} (c : CutF pl ts i e) (F : Fine pl ts) : Fine (nearP pl ts e) (amT (nearP pl ts e) (restT ts i)) := ⟨c.near, fun l hl => F.ok l (List.mem_filter.mp hl).1, (c.comp1 F).plen⟩
theorem CutF.fine2 {pl : List Nm} {ts : List Tie} {i : Nat} {e : Tie} (c : CutF pl ts i e) (F : Fine pl ts) : Fine (offP pl ts e) (amT (offP pl ts e) (restT ts i)) := ⟨c.off, fun l hl => F.ok l (List.mem_filter.mp hl).1, (c.comp2 F).plen⟩
/-! ### a tie put elsewhere -/
def chgT (ts : List Tie) (i : Nat) (k : Int) (x y : Nm) : List Tie := ts.take i ++ [(x, y, k)] ++ ts.drop (i + 1)
theorem chg_perm (ts : List Tie) (i : Nat) (k : Int) (x y : Nm) : (chgT ts i k x y).Perm (restT ts i ++ [(x, y, k)]) := by
  unfold chgT restT
  rw [List.append_assoc, List.append_assoc]
  exact List.Perm.append_left _ List.perm_append_comm
noncomputable def rP (ts : List Tie) (ps : List Nm) (x : Nm) : Int := mxG (ps.map fun y => dist ts x y)
/-- how far a place is from its farthest in its part -/
noncomputable def rE (pl : List Nm) (ts : List Tie) (e : Tie) (x : Nm) : Int := if x ∈ nearP pl ts e then rP ts (nearP pl ts e) x else rP ts (offP pl ts e) x
noncomputable def insE (pl : List Nm) (ts : List Tie) (e : Tie) : Int := mxG ((nearP pl ts e ++ offP pl ts e).map (rE pl ts e))
noncomputable def overE (pl : List Nm) (ts : List Tie) (e : Tie) (x y : Nm) : Int := mx2 (insE pl ts e) (rE pl ts e x + e.2.2 + rE pl ts e y)
/-- just one of the two is at the tie's one -/
def acrE (pl : List Nm) (ts : List Tie) (e : Tie) (x y : Nm) : Prop := (x ∈ nearP pl ts e ∧ y ∈ offP pl ts e) ∨ (x ∈ offP pl ts e ∧ y ∈ nearP pl ts e)
section
variable {pl : List Nm} {ts : List Tie} {i : Nat} {e : Tie}
theorem CutF.rch1 (c : CutF pl ts i e) {x : Nm} (hx : x ∈ nearP pl ts e) : rch (nearP pl ts e) (amT (nearP pl ts e) (restT ts i)) x = rP ts (nearP pl ts e) x := by
  unfold rch rP
  refine congrArg mxG (List.map_congr_left fun y hy => ?_)
  exact dist_among c.near c.tr (fun a b k h => h.elim (fun z => .inl (am_sub z)) fun z => .inr (am_sub z)) hx hy
theorem CutF.rch2 (c : CutF pl ts i e) {x : Nm} (hx : x ∈ offP pl ts e) : rch (offP pl ts e) (amT (offP pl ts e) (restT ts i)) x = rP ts (offP pl ts e) x := by
  unfold rch rP
  refine congrArg mxG (List.map_congr_left fun y hy => ?_)
  exact dist_among c.off c.tr (fun a b k h => h.elim (fun z => .inl (am_sub z)) fun z => .inr (am_sub z)) hx hy
theorem CutF.rE1 (c : CutF pl ts i e) {x : Nm} (hx : x ∈ nearP pl ts e) : rE pl ts e x = rch (nearP pl ts e) (amT (nearP pl ts e) (restT ts i)) x := by
  rw [c.rch1 hx]
  exact if_pos hx
theorem CutF.rE2 (c : CutF pl ts i e) {x : Nm} (hx : x ∈ offP pl ts e) : rE pl ts e x = rch (offP pl ts e) (amT (offP pl ts e) (restT ts i)) x := by
  rw [c.rch2 hx]
  exact if_neg fun z => c.dis x z hx
theorem mxG_app {l m : List Int} (hl : l ≠ []) (hm : m ≠ []) : mxG (l ++ m) = mx2 (mxG l) (mxG m) := by
  obtain ⟨a1, a2⟩ := mxG_in hl
  obtain ⟨b1, b2⟩ := mxG_in hm
  obtain ⟨c1, c2⟩ := mxG_in (l := l ++ m) (by simp [hl])
  have h1 := c2 _ (List.mem_append_left _ a1)
  have h2 := c2 _ (List.mem_append_right _ b1)
  unfold mx2
  rcases List.mem_append.mp c1 with z | z
  · have := a2 _ z
    split <;> omega
  · have := b2 _ z
    split <;> omega
theorem CutF.ins (c : CutF pl ts i e) : insE pl ts e = mx2 (mxG ((nearP pl ts e).map (rch (nearP pl ts e) (amT (nearP pl ts e) (restT ts i))))) (mxG ((offP pl ts e).map (rch (offP pl ts e) (amT (offP pl ts e) (restT ts i))))) := by
  unfold insE
  rw [List.map_append, mxG_app, List.map_congr_left fun x hx => c.rE1 hx, List.map_congr_left (l := offP pl ts e) fun x hx => c.rE2 hx]
  · exact fun z => by
      have := c.ma
      rw [List.map_eq_nil_iff.mp z] at this
      cases this
  · exact fun z => by
      have := c.mb
      rw [List.map_eq_nil_iff.mp z] at this
      cases this
theorem mx2_comm (i j : Int) : mx2 i j = mx2 j i := by
  unfold mx2
  split <;> split <;> omega
/-- the changed tree, and how long it is -/
theorem CutF.changed (c : CutF pl ts i e) (F : Fine pl ts) {x y : Nm} (a : acrE pl ts e x y) : Fine pl (chgT ts i e.2.2 x y) ∧ (topOf pl (chgT ts i e.2.2 x y)).1 = overE pl ts e x y := by
  have F1 := c.fine1 F
  have F2 := c.fine2 F
  rcases a with ⟨hx, hy⟩ | ⟨hx, hy⟩
  · have J := c.near.joined c.off c.dis hx hy c.k1 c.k2
    have pT : (chgT ts i e.2.2 x y).Perm (amT (nearP pl ts e) (restT ts i) ++ amT (offP pl ts e) (restT ts i) ++ [(x, y, e.2.2)]) := (chg_perm ts i e.2.2 x y).trans (c.rs.symm.append_right _)
    have T : IsTree pl (chgT ts i e.2.2 x y) := J.perm c.ps.symm pT
    have FC : Fine pl (chgT ts i e.2.2 x y) := ⟨T, F.ok, F.len⟩
    refine ⟨FC, ?_⟩
    obtain ⟨t1, t2, t3⟩ := top_in FC
    have D : ∀ u ∈ nearP pl ts e ++ offP pl ts e, ∀ v ∈ nearP pl ts e ++ offP pl ts e, dist (chgT ts i e.2.2 x y) u v = dist (amT (nearP pl ts e) (restT ts i) ++ amT (offP pl ts e) (restT ts i) ++ [(x, y, e.2.2)]) u v := fun u hu v hv => dist_perm J pT hu hv
    have := joined_top F1 F2 c.dis hx hy c.k1 c.k2 (m := (topOf pl (chgT ts i e.2.2 x y)).1) ⟨_, c.ps.mem_iff.mpr t1, _, c.ps.mem_iff.mpr t2, by rw [← D _ (c.ps.mem_iff.mpr t1) _ (c.ps.mem_iff.mpr t2)]; exact t3.symm⟩ fun u hu v hv => by rw [← D u hu v hv]; exact top_max FC (c.ps.mem_iff.mp hu) (c.ps.mem_iff.mp hv)
    rw [this]
    unfold overE joinT insN
    rw [c.ins, c.rE1 hx, c.rE2 hy]
  · have J := c.off.joined c.near (fun z h1 h2 => c.dis z h2 h1) hx hy c.k1 c.k2
    have pT : (chgT ts i e.2.2 x y).Perm (amT (offP pl ts e) (restT ts i) ++ amT (nearP pl ts e) (restT ts i) ++ [(x, y, e.2.2)]) := (chg_perm ts i e.2.2 x y).trans ((c.rs.symm.trans List.perm_append_comm).append_right _)
    have ps : (offP pl ts e ++ nearP pl ts e).Perm pl := List.perm_append_comm.trans c.ps
    have T : IsTree pl (chgT ts i e.2.2 x y) := J.perm ps.symm pT
    have FC : Fine pl (chgT ts i e.2.2 x y) := ⟨T, F.ok, F.len⟩
    refine ⟨FC, ?_⟩
    obtain ⟨t1, t2, t3⟩ := top_in FC
    have D : ∀ u ∈ offP pl ts e ++ nearP pl ts e, ∀ v ∈ offP pl ts e ++ nearP pl ts e, dist (chgT ts i e.2.2 x y) u v = dist (amT (offP pl ts e) (restT ts i) ++ amT (nearP pl ts e) (restT ts i) ++ [(x, y, e.2.2)]) u v := fun u hu v hv => dist_perm J pT hu hv
    have := joined_top F2 F1 (fun z h1 h2 => c.dis z h2 h1) hx hy c.k1 c.k2 (m := (topOf pl (chgT ts i e.2.2 x y)).1) ⟨_, ps.mem_iff.mpr t1, _, ps.mem_iff.mpr t2, by rw [← D _ (ps.mem_iff.mpr t1) _ (ps.mem_iff.mpr t2)]; exact t3.symm⟩ fun u hu v hv => by rw [← D u hu v hv]; exact top_max FC (ps.mem_iff.mp hu) (ps.mem_iff.mp hv)
    rw [this]
    unfold overE joinT insN
    rw [c.ins, c.rE2 hx, c.rE1 hy, mx2_comm (mxG (List.map _ (offP pl ts e)))]
end
end Far

namespace Far
open PySem PySem.Spec PyProof.Rows L2
theorem zip_no_len : typeLookup (.type "zip") "__len__" = pure none := am_miss_of_fast (by decide +kernel)
theorem zip_no_hint : typeLookup (.type "zip") "__length_hint__" = pure none := am_miss_of_fast (by decide +kernel)
/-- the tuples at ps are the pairs of xs and ys -/
def PairsAt (H : Hp) (ps : List Addr) (xs ys : List V) : Prop := ∀ (i : Nat) (p : Addr), ps[i]? = some p → ∃ x y, xs[i]? = some x ∧ ys[i]? = some y ∧ H p = some (.tup [x, y])
theorem PairsAt.keep {H H' : Hp} {ps : List Addr} {xs ys : List V} (h : PairsAt H ps xs ys) (k : ∀ p zs, H p = some (.tup zs) → H' p = some (.tup zs)) : PairsAt H' ps xs ys := fun i p e => by
  obtain ⟨x, y, a, b, c⟩ := h i p e
  exact ⟨x, y, a, b, k p _ c⟩
theorem same_seqT {K : PySem.W.Frag} {H H' : Hp} {a : Addr} {xs : List V} (S : Same H H') (h : SqT K H a xs) : SqT K H' a xs := by
  rcases h with (h | ⟨o, h⟩) | h
  · exact .inl (.inl (S _ _ h))
  · exact .inl (.inr ⟨o, S _ _ h⟩)
  · exact .inr h
section
variable {X : Cx} {pins : List (Addr × Obj)} {σ : L2.St} {H0 H : Hp} {s : Shared} {z TI TO i1 i2 a b q : Addr} {A : Around} {E : Value → Shared → Prop} {xs ys : List V} {n : Nat} {R : Result → Shared → Prop}
theorem hint_zip {f0 f1 : Value} (hz : ZipAt s.heap z TI TO f0 f1) {Q : Bool → Shared → Prop} (h : Q true s) : wpAny (model X.prog X.w) A (Builtin.List.listLengthHint (.ref z)) Q E s := by
  have ty : s.TypeIs (.ref z) "zip" := ⟨_, hz, rfl⟩
  unfold Builtin.List.listLengthHint
  refine wpAny_bind (wpAny_specialOf ty zip_no_len ?_)
  refine PySem.W.KFB.if_not rfl ?_
  refine PySem.W.KFB.if_not rfl ?_
  refine wpAny_bind (wpAny_specialOf ty zip_no_hint ?_)
  exact wpAny_pure h
/-- the list at q filled with the pairs -/
theorem fill_zip (hh : A.handled = none) (D : ZipAp z TI TO i1 i2 a b) (hn : n ≤ xs.length) (hn2 : n ≤ ys.length) (he : n = xs.length ∨ n = ys.length) (hz : n < sizeLine) (qf : q ∉ [z, TI, TO, i1, i2]) (qn : H0 q = none)
    (hx : SqT X.K H0 a xs) (hy : SqT X.K H0 b ys)
    (hR : ∀ H' s' ps, Inv X pins σ H' s' → Same H0 H' → H' q = some (.lst (ps.map V.ref)) → ps.length = n → PairsAt H' ps xs ys → R (.ok (.ret .none)) s') :
    ∀ (k i : Nat) (ps : List Addr) (H : Hp) (s : Shared), n - i = k → i ≤ n → Inv X pins σ H s → (∀ c ∈ [z, TI, TO, i1, i2], FpOk X pins H c) → ZipSt z TI TO i1 i2 a b i s.heap → Same H0 H → H q = some (.lst (ps.map V.ref)) → ps.length = i → PairsAt H ps xs ys →
      codeAny (model X.prog X.w) A (.builtin "list.extend.loop" ⟨[.ref q, .ref z, .none], []⟩) R s := by
  intro k
  induction k with
  | zero =>
    intro i ps H s ek hi I hf st S hq hl hp
    have ei : i = n := by omega
    refine codeAny_builtin PySem.F.entry_extend_loop ?_
    rw [Around.under_plainId PySem.F.plain_extend_loop _]
    show wpAny _ A.in1 (pyNext (.ref z) >>= _) _ _ s
    refine wpAny_bind (zip_over (A := A.in1) hh D I hf st (same_seqT S hx) (same_seqT S hy) (by omega) (by omega) (by omega) fun s' I' _ => ?_)
    exact wpAny_pure (hR H s' ps I' S hq (by omega) hp)
  | succ k ih =>
    intro i ps H s ek hi I hf st S hq hl hp
    have lt : i < n := by omega
    refine codeAny_builtin PySem.F.entry_extend_loop ?_
    rw [Around.under_plainId PySem.F.plain_extend_loop _]
    show wpAny _ A.in1 (pyNext (.ref z) >>= _) _ _ s
    refine wpAny_bind (zip_turn (A := A.in1) hh D I hf st (same_seqT S hx) (same_seqT S hy) (x := xs[i]'(by omega)) (y := ys[i]'(by omega)) (by simp) (by simp) fun T s' nT I' st' nf kk eT => ?_)
    show wpAny _ A.in1 (updateSeq q (·.push (.ref T)) >>= _) _ _ _
    have qT : q ≠ T := ne_of_none hq nT
    have hq' : (upd H T (.tup [xs[i]'(by omega), ys[i]'(by omega)])) q = some (.lst (ps.map V.ref)) := by
      rw [upd_ne qT]
      exact hq
    obtain ⟨sz, its, m, rv, hlen, e⟩ := I'.lstM hq'
    rw [List.length_map] at hlen
    refine wpAny_bind (wpAny_updateSeq e rfl (wpAny_pure ⟨plainId_quiet PySem.F.plain_extend_loop _, ?_⟩) (by rw [List.size_toArray]; omega) (by show (its.toArray.push (Value.ref T)).size ≤ sizeLine + 1; rw [Array.size_push, List.size_toArray]; omega))
    have I2 := I'.lset (its' := its ++ [.ref T]) (ys := (ps ++ [T]).map V.ref) (f := (·.push (Value.ref T))) (t' := s'.toks) hq' e (by simp) (by rw [List.map_append]; exact rv.append (.cons rfl .nil)) (by rw [List.length_map, List.length_append, List.length_singleton]; omega)
    refine ih (i + 1) (ps ++ [T]) _ _ (by omega) (by omega) I2 (fun c hc => ?_) (st'.keep fun c hc o w => ?_) ?_ upd_same (by rw [List.length_append, List.length_singleton]; omega) ?_
    · have cq : c ≠ q := fun w => qf (w ▸ hc)
      exact ⟨by rw [upd_ne cq]; exact nf c hc, (hf c hc).2⟩
    · have cq : c ≠ q := fun w => qf (w ▸ hc)
      exact (Heap.get?_update_other _ _ (Ne.symm cq)).trans w
    · intro c o w
      have cq : c ≠ q := fun e => by rw [e, qn] at w; cases w
      rw [upd_ne cq, upd_ne (ne_of_none (S c o w) nT)]
      exact S c o w
    · intro j p ej
      have tq : T ≠ q := Ne.symm qT
      by_cases hj : j < ps.length
      · rw [List.getElem?_append_left hj] at ej
        obtain ⟨x, y, f1, f2, f3⟩ := hp j p ej
        refine ⟨x, y, f1, f2, ?_⟩
        rw [upd_ne (ne_of f3 hq (fun z => nomatch z)), upd_ne (ne_of_none f3 nT)]
        exact f3
      · rw [List.getElem?_append_right (by omega)] at ej
        have ej0 : j = i := by
          have := (List.getElem?_eq_some_iff.mp ej).1
          simp at this
          omega
        subst ej0
        rw [hl] at ej
        simp at ej
        subst ej
        exact ⟨xs[j]'(by omega), ys[j]'(by omega), by simp, by simp, by rw [upd_ne tq]; exact upd_same⟩
/-- list(zip(a, b)), two tuples -/
theorem list_zip {Q : Value → Shared → Prop} {A : Around} (hh : A.handled = none) (D : ZipAp z TI TO i1 i2 a b) (hn : n ≤ xs.length) (hn2 : n ≤ ys.length) (he : n = xs.length ∨ n = ys.length) (hz : n < sizeLine)
    (I : Inv X pins σ H s) (hf : ∀ c ∈ [z, TI, TO, i1, i2], FpOk X pins H c) (st : ZipSt z TI TO i1 i2 a b 0 s.heap) (hx : SqT X.K H a xs) (hy : SqT X.K H b ys)
    (q : ∀ q H' s' ps, H q = none → Inv X pins σ H' s' → Same H H' → H' q = some (.lst (ps.map V.ref)) → ps.length = n → PairsAt H' ps xs ys → Q (.ref q) s') : wpAny (model X.prog X.w) A (call (.type "list") [.ref z]) Q E s := by
  refine callType_codes (Q₁ := fun obj s₁ => obj = .ref s.heap.objs.size ∧ s₁ = { s with heap := s.heap.push { cls := .type "list", data := .seq #[] } }) PySem.F.called_list (PySem.F.typeCall_list_1 _) PySem.F.entry_list_init
    (code_list_new _ ⟨rfl, rfl⟩) fun obj s₁ h₁ => ?_
  obtain ⟨rfl, rfl⟩ := h₁
  have hS : (s.heap.push { cls := .type "list", data := .seq #[] }).get? s.heap.objs.size = some { cls := .type "list", data := .seq #[] } := Heap.get?_push_size _ rfl
  refine ⟨⟨_, hS, rfl⟩, PySem.F.args_list_init_2 _ _, ?_⟩
  have fr : H s.heap.objs.size = none := I.hok.fresh (Nat.le_refl _)
  have lt : ∀ c ∈ [z, TI, TO, i1, i2], c < s.heap.objs.size := fun c hc => by
    obtain ⟨o, ho, _⟩ := (turn_zipN (P := X.prog) (w := X.w) (K := X.K) (tg := .Name "p" default) D fun _ _ => rfl).obj 0 _ st c hc
    exact Heap.lt_size ho
  have qf : s.heap.objs.size ∉ [z, TI, TO, i1, i2] := fun hm => absurd (lt _ hm) (Nat.lt_irrefl _)
  generalize hq : s.heap.objs.size = qa at *
  have I1 : Inv X pins σ (upd H qa (.lst [])) { s with heap := s.heap.push { cls := .type "list", data := .seq #[] } } := by
    rw [← hq]
    exact I.lnew (its := []) (t' := s.toks) .nil (Nat.zero_le _)
  show wpAny _ _ (do let old ← Builtin.List.listItems (.ref qa); Builtin.List.listUpdate (.ref qa) (fun _ => #[]); letGo old.toList.reverse; Builtin.List.listExtendWith (.ref qa) (.ref z) .none) _ _ _
  refine wpAny_bind ?_
  unfold Builtin.List.listItems
  refine wpAny_bind (wpAny_seqItems hS rfl (wpAny_pure ?_))
  show wpAny _ _ (updateSeq qa (fun _ => #[]) >>= fun _ => letGo (#[] : Array Value).toList.reverse >>= fun _ => Builtin.List.listExtendWith (.ref qa) (.ref z) .none) _ _ _
  refine wpAny_bind (wpAny_updateSeq hS rfl ?_)
  have I2 := I1.lset (f := fun _ => #[]) (its := []) (its' := []) (ys := []) (t' := s.toks) upd_same hS rfl .nil (Nat.zero_le _)
  rw [upd_upd] at I2
  refine wpAny_bind (wpAny_letGo ?_)
  have st2 := st.keep (h' := s.heap.push { cls := .type "list", data := .seq #[] }) fun c _ o w => Heap.get?_push_of_some _ w
  have st3 := st2.keep (h' := (s.heap.push { cls := .type "list", data := .seq #[] }).update qa (Obj.mapSeq fun _ => #[])) fun c hc o w => (Heap.get?_update_other _ _ (fun e : qa = c => qf (e ▸ hc))).trans w
  have hz3 := st3
  obtain ⟨⟨f0, f1, ok, hz4⟩, _⟩ := hz3
  unfold Builtin.List.listExtendWith
  have ty : Shared.TypeIs { s with heap := (s.heap.push { cls := .type "list", data := .seq #[] }).update qa (Obj.mapSeq fun _ => #[]) } (.ref z) "zip" := ⟨_, hz4, rfl⟩
  refine wpAny_bind (wpAny_typeOf ty ?_)
  have qz : qa ≠ z := fun e => qf (by simp [e])
  have h1 : Builtin.List.listSameRef (.ref qa) (.ref z) = false := by simp [Builtin.List.listSameRef, qz]
  have h2 : (Value.type "zip" == Value.type "list") = false := by decide
  have h3 : (Value.type "zip" == Value.type "tuple") = false := by decide
  simp only [h1, h2, h3, Bool.or_false, Bool.false_eq_true, if_false]
  refine wpAny_bind (iter_zip hz4 ?_)
  refine wpAny_bind (wpAny_holding (hint_zip hz4 ?_))
  obtain ⟨z5, its5, k5, r5, hl5, e5⟩ := I2.lstM upd_same
  cases r5
  have S0 : Same H (upd H qa (.lst [])) := same_new (Same.refl H) fr
  have nf2 : ∀ c ∈ [z, TI, TO, i1, i2], FpOk X pins (upd H qa (.lst [])) c := fun c hc => ⟨by rw [upd_ne (fun e : c = qa => qf (e ▸ hc))]; exact (hf c hc).1, (hf c hc).2⟩
  have fin : ∀ s', Inv X pins σ (upd H qa (.lst [])) s' → ZipSt z TI TO i1 i2 a b 0 s'.heap → codeAny (model X.prog X.w) A.in1 (.builtin "list.extend.loop" ⟨[.ref qa, .ref z, .none], []⟩) (wants (fun r s₂ => r = .none ∧ Q (.ref qa) s₂) E) s' := fun s' J st' =>
    fill_zip (A := A.in1) (H0 := H) (R := wants (fun r s₂ => r = .none ∧ Q (.ref qa) s₂) E) hh D hn hn2 he hz qf fr hx hy (fun H' s2 ps J' S' hq' hl' hp' => ⟨rfl, q qa H' s2 ps fr J' S' hq' hl' hp'⟩) n 0 [] _ s' rfl (Nat.zero_le _) J nf2 st' S0 upd_same rfl (fun i p e => by simp at e)
  refine wpAny_ite_split (fun _ => ?_) (fun _ => wpAny_pure ⟨plainId_quiet PySem.F.plain_extend_loop _, fin _ I2 st3⟩)
  refine wpAny_bind (wpAny_rule ?_)
  refine wpAny_bind ?_
  show wpAny _ _ (updateSeq qa (·.push .none) >>= fun _ => updateSeq qa (·.pop)) _ _ _
  refine wpAny_bind (wpAny_updateSeq e5 rfl ?_)
  have I3 := I2.lset (f := (·.push Value.none)) (its' := [Value.none]) (ys := [.non]) (t' := s.toks) upd_same e5 (by simp) (.cons rfl .nil) (by rw [List.length_singleton, sizeLine_eq]; decide)
  obtain ⟨z6, its6, k6, r6, hl6, e6⟩ := I3.lstM upd_same
  obtain ⟨u6, rfl, ru6⟩ := r6.one
  refine wpAny_updateSeq e6 rfl ?_ (by show 1 ≤ sizeLine; rw [sizeLine_eq]; decide) (by show 0 ≤ sizeLine + 1; exact Nat.zero_le _)
  have I4 := I3.lset (f := (·.pop)) (its := [u6]) (its' := []) (ys := []) (t' := s.toks) upd_same e6 (by rfl) .nil (Nat.zero_le _)
  rw [upd_upd, upd_upd] at I4
  have oth : ∀ (h : Heap) (f : Obj → Obj) (c : Addr), c ∈ [z, TI, TO, i1, i2] → ∀ o, h.get? c = some o → (h.update qa f).get? c = some o := fun h f c hc o w => (Heap.get?_update_other _ _ (fun e : qa = c => qf (e ▸ hc))).trans w
  exact wpAny_pure ⟨plainId_quiet PySem.F.plain_extend_loop _, fin _ I4 ((st3.keep (oth _ _)).keep (oth _ _))⟩
end
def tListZip (K : PySem.W.Frag) (ta : TA) : TE := fun σ H Q => ta σ H fun vs H1 => ∃ a b xs ys n, vs = [.ref a, .ref b] ∧ SqT K H1 a xs ∧ SqT K H1 b ys ∧ n ≤ xs.length ∧ n ≤ ys.length ∧ (n = xs.length ∨ n = ys.length) ∧ n < sizeLine ∧
  ∀ q H' ps, H1 q = none → Same H1 H' → H' q = some (.lst (ps.map V.ref)) → ps.length = n → PairsAt H' ps xs ys → Q (.ref q) H'
theorem pe_listZip {X : Cx} {e e2 : Expr} {ta : TA} {p p2 q pos : Pos} (hg : Gl X "list") (hm : X.mg "list" = none) (hg2 : Gl X "zip") (hm2 : X.mg "zip" = none) (ha : PA X [e, e2] ta) (hc : X.calm = true := by rfl)
    (hs : starEach [e, e2] X.env = (false, eval e X.env) :: starEach [e2] X.env := by rfl) (hpl : (backTo q (starEach [e2] X.env)).any (·.1) = false := by rfl)
    (hso : starEach [.Call (.Name "zip" p2) [e, e2] [] q] X.env = (false, eval (.Call (.Name "zip" p2) [e, e2] [] q) X.env) :: starEach [] X.env := by rfl) :
    PE X (.Call (.Name "list" p) [.Call (.Name "zip" p2) [e, e2] [] q] [] pos) (tListZip X.K ta) := by
  refine ⟨fun pins s σ H Q I h => ?_⟩
  refine Call_ (ld_blt I hg hm bt_list ?_)
  refine PyProof.Rows.callWith_type1 (PyProof.Rows.args_cons ?_ hso) hso rfl
  refine Call_ (ld_blt I hg2 hm2 PyProof.Rows.boot_zip (PyProof.Rows.callWith_type1 (thn (ha.run q pins s σ H _ I h) fun us s1 ⟨vs, H1, I1, r1, q1⟩ => ?_) hs hpl))
  obtain ⟨a, b, xs, ys, n, ex, hx, hy, hn, hn2, he, hz, q1⟩ := q1
  subst ex
  cases r1 with
  | cons r rr =>
    cases rr with
    | cons r' rr =>
      cases rr
      cases r
      cases r'
      refine zip_made I1 hx hy fun z TI TO i1 i2 s' D I' st hf _ => ?_
      refine PyProof.Rows.args_nil ?_
      exact list_zip (I'.ok.hd hc) D hn hn2 he hz I' hf st hx hy fun q H' s2 ps nq J S hq hl hp => ⟨.ref q, H', J, rfl, q1 q H' ps nq S hq hl hp⟩
end Far

namespace Far
open PySem PySem.Spec PyProof.Rows L2
open SX (S)
/-! ### sorted of a list whose items are data of one kind -/
theorem each_fst : ∀ {bs : List (V × PyData)} {us : List Value}, Vals (bs.map (·.1)) us → PySem.W.EachIs (fun u b => RelV b.1 u) us bs
  | [], [], .nil => .nil
  | _ :: _, _ :: _, .cons h t => .cons h (each_fst t)
theorem fst_each {us : List Value} {bs : List (V × PyData)} (h : PySem.W.EachIs (fun u b => RelV b.1 u) us bs) : Vals (bs.map (·.1)) us := by
  induction h with
  | nil => exact .nil
  | cons e _ ih => exact .cons e ih
def rSortedD (K : PySem.W.Frag) : List V → Hp → VK → Prop := fun vs H Q => ∃ (a : Addr) (bs : List (V × PyData)), vs = [V.ref a] ∧ SqL K H a (bs.map (·.1)) ∧ (∀ b ∈ bs, Dp K H b.1 b.2 ∧ b.2.depth ≤ 8) ∧ PySem.W.AllAlike (bs.map (·.2)) ∧ PySem.W.Sortable (bs.map (·.2)) ∧
  ∀ p, H p = none → Q (.ref p) (upd H p (.lst ((bs.mergeSort (PySem.W.dataLe false (·.2))).map (·.1))))
section
variable {X : Cx}
theorem each_dp {pins : List (Addr × Obj)} {σ : L2.St} {H : Hp} {s : Shared} (I : Inv X pins σ H s) : ∀ {bs : List (V × PyData)} {us : List Value}, (∀ b ∈ bs, Dp X.K H b.1 b.2 ∧ b.2.depth ≤ 8) → Vals (bs.map (·.1)) us → PySem.W.EachIs (fun u b => ∃ as, Reads s.heap u b.2 as) us bs
  | [], [], _, .nil => .nil
  | b :: _, _ :: _, hb, .cons h t => .cons (Dp.reads I _ _ _ (hb b List.mem_cons_self).1 h) (each_dp I (fun x hx => hb x (List.mem_cons_of_mem _ hx)) t)
theorem cr_sortedD (hr : Room 1 X.A) : CallR X (.builtin "sorted") (rSortedD X.K) := by
  intro pins s σ H vs us Q I r h
  obtain ⟨a, bs, rfl, hs, hb, hal, hk, q⟩ := h
  obtain ⟨its, rv, hl, hz⟩ := I.list hs
  rw [Vals.ref1 r]
  rw [List.length_map] at hz
  refine PySem.W.sorted_data (R := fun u b => RelV b.1 u) (bs := bs) (enc := (·.2)) hl.isList (each_fst rv) (each_dp I hb rv) hal hk hz (fun b hm => ?_) fun out ho he => ?_
  · have := hr.un
    have := (hb b hm).2
    omega
  · obtain ⟨ep, he'⟩ := PyProof.Rows.sortedAll_at s.heap its out.toArray
    exact ⟨.ref _, upd H (s.heap.objs.size + 1) (.lst ((bs.mergeSort (PySem.W.dataLe false (·.2))).map (·.1))), I.laid (t' := s.toks) (fun _ _ => PyProof.Rows.sortedAll_old) (Nat.le_succ _) ⟨by rw [List.length_map, List.length_mergeSort]; exact hz, out, ep, fst_each he, he'⟩, rfl, q _ (I.hok.fresh (Nat.le_succ _))⟩
theorem cr_sortedDL {K : PySem.W.Frag} (hr : Room 1 X.A) (eK : X.K = K := by rfl) : CallR X (.builtin "sorted") (rSortedD K) := by subst eK; exact cr_sortedD hr
theorem op_eqDL {K : PySem.W.Frag} (hu : X.A.units + 64 < cLine) (eK : X.K = K := by rfl) : OpR X (compareOp .Eq) (rEqD K) := by subst eK; exact op_eqD hu
end
theorem bt_sorted19 : bootBuiltins ("sorted" : Str) = some (.builtin "sorted") := by decide +kernel
theorem ms_two {α : Type} (le : α → α → Bool) (x y : α) : [x, y].mergeSort le = if le x y = true then [x, y] else [y, x] := by
  by_cases c : le x y = true
  · simp [List.mergeSort, List.MergeSort.Internal.splitInTwo, List.merge, c]
  · simp [List.mergeSort, List.MergeSort.Internal.splitInTwo, List.merge, c]
/-- two names in their order -/
def leN (a b : Nm) : Bool := decide ((S a).cps.toList ≤ (S b).cps.toList)
def two (a b : Nm) : List Nm := if leN a b = true then [a, b] else [b, a]
theorem leN_total (a b : Nm) : leN a b = true ∨ leN b a = true := by
  unfold leN
  rw [decide_eq_true_eq, decide_eq_true_eq]
  exact List.le_total _ _
theorem leN_anti {a b : Nm} (h1 : leN a b = true) (h2 : leN b a = true) : a = b := by
  unfold leN at h1 h2
  rw [decide_eq_true_eq] at h1 h2
  have e := List.le_antisymm h1 h2
  exact SX.S_inj (by
    show (S a) = S b
    have e2 : (S a).cps = (S b).cps := Array.toList_inj.mp e
    cases ha : S a with
    | mk x =>
      cases hb : S b with
      | mk y =>
        rw [ha, hb] at e2
        rw [show x = y from e2])
theorem two_eq {a b c d : Nm} : two a b = two c d ↔ (a, b) = (c, d) ∨ (a, b) = (d, c) := by
  unfold two
  rw [Prod.mk.injEq, Prod.mk.injEq]
  by_cases h1 : leN a b = true <;> by_cases h2 : leN c d = true
  · rw [if_pos h1, if_pos h2]
    simp only [List.cons.injEq, and_true]
    refine ⟨.inl, fun h => h.elim id fun ⟨e1, e2⟩ => ?_⟩
    subst e1 e2
    have := leN_anti h1 h2
    exact ⟨this, this.symm⟩
  · rw [if_pos h1, if_neg h2]
    simp only [List.cons.injEq, and_true]
    refine ⟨.inr, fun h => h.elim (fun ⟨e1, e2⟩ => ?_) id⟩
    subst e1 e2
    exact absurd h1 h2
  · rw [if_neg h1, if_pos h2]
    simp only [List.cons.injEq, and_true]
    refine ⟨fun ⟨e1, e2⟩ => .inr ⟨e2, e1⟩, fun h => h.elim (fun ⟨e1, e2⟩ => ?_) fun ⟨e1, e2⟩ => ⟨e2, e1⟩⟩
    subst e1 e2
    exact absurd h2 h1
  · rw [if_neg h1, if_neg h2]
    simp only [List.cons.injEq, and_true]
    refine ⟨fun ⟨e1, e2⟩ => .inl ⟨e2, e1⟩, fun h => h.elim (fun ⟨e1, e2⟩ => ⟨e2, e1⟩) fun ⟨e1, e2⟩ => ?_⟩
    subst e1 e2
    have := leN_total a b
    rcases this with h | h
    · exact absurd h h1
    · exact absurd h h2
/-- sorted([one, other]) of two texts -/
theorem srt_two (a b : Nm) : (([(V.str (S a), strD a), (V.str (S b), strD b)] : List (V × PyData)).mergeSort (PySem.W.dataLe false (·.2))).map (·.1) = ((two a b).map S).map V.str := by
  have e : ∀ x y : Nm, PySem.W.dataLe false (·.2) ((V.str (S x), strD x) : V × PyData) (V.str (S y), strD y) = leN x y := fun x y =>
    congrFun (congrFun (PySem.W.dataLe_str fun z : Nm => S z) x) y
  rw [ms_two, e]
  unfold two
  by_cases c : leN a b = true
  · rw [if_pos c, if_pos c]
    rfl
  · rw [if_neg c, if_neg c]
    rfl
theorem srt_all (a b : Nm) : PySem.W.AllAlike (([(V.str (S a), strD a), (V.str (S b), strD b)] : List (V × PyData)).map (·.2)) ∧ PySem.W.Sortable (([(V.str (S a), strD a), (V.str (S b), strD b)] : List (V × PyData)).map (·.2)) := by
  constructor
  · intro d hd d' hd'
    simp only [List.map_cons, List.map_nil, List.mem_cons, List.not_mem_nil, or_false] at hd hd'
    rcases hd with rfl | rfl <;> rcases hd' with rfl | rfl <;> rfl
  · refine .inr fun d hd => ?_
    simp only [List.map_cons, List.map_nil, List.mem_cons, List.not_mem_nil, or_false] at hd
    rcases hd with rfl | rfl
    · exact ⟨(by intro z; cases z), fun xs z => by cases z⟩
    · exact ⟨(by intro z; cases z), fun xs z => by cases z⟩
end Far

namespace Far
open PySem PySem.Spec PyProof.Rows L2
theorem vals_refs : ∀ {ps : List Addr} {us : List Value}, Vals (ps.map V.ref) us → us = ps.map Value.ref
  | [], [], .nil => rfl
  | p :: ps, _ :: _, .cons h t => by
    cases h
    rw [vals_refs t]
    rfl
section
variable {X : Cx} {pins : List (Addr × Obj)} {σ : L2.St} {H0 H : Hp} {s : Shared} {z TI TO i1 i2 a b q : Addr} {A : Around} {E : Value → Shared → Prop} {xs ys : List V} {n : Nat} {R : Result → Shared → Prop}
/-- the list at q filled with the pairs, what is handed out named -/
theorem fill_zipF (ret : Value) (hh : A.handled = none) (D : ZipAp z TI TO i1 i2 a b) (hn : n ≤ xs.length) (hn2 : n ≤ ys.length) (he : n = xs.length ∨ n = ys.length) (hz : n < sizeLine) (qf : q ∉ [z, TI, TO, i1, i2]) (qn : H0 q = none)
    (hx : SqT X.K H0 a xs) (hy : SqT X.K H0 b ys)
    (hR : ∀ H' s' ps, Inv X pins σ H' s' → Same H0 H' → H' q = some (.lst (ps.map V.ref)) → ps.length = n → PairsAt H' ps xs ys → R (.ok (.ret ret)) s') :
    ∀ (k i : Nat) (ps : List Addr) (H : Hp) (s : Shared), n - i = k → i ≤ n → Inv X pins σ H s → (∀ c ∈ [z, TI, TO, i1, i2], FpOk X pins H c) → ZipSt z TI TO i1 i2 a b i s.heap → Same H0 H → H q = some (.lst (ps.map V.ref)) → ps.length = i → PairsAt H ps xs ys →
      codeAny (model X.prog X.w) A (.builtin "list.extend.loop" ⟨[.ref q, .ref z, ret], []⟩) R s := by
  intro k
  induction k with
  | zero =>
    intro i ps H s ek hi I hf st S hq hl hp
    have ei : i = n := by omega
    refine codeAny_builtin PySem.F.entry_extend_loop ?_
    rw [Around.under_plainId PySem.F.plain_extend_loop _]
    show wpAny _ A.in1 (pyNext (.ref z) >>= _) _ _ s
    refine wpAny_bind (zip_over (A := A.in1) hh D I hf st (same_seqT S hx) (same_seqT S hy) (by omega) (by omega) (by omega) fun s' I' _ => ?_)
    exact wpAny_pure (hR H s' ps I' S hq (by omega) hp)
  | succ k ih =>
    intro i ps H s ek hi I hf st S hq hl hp
    have lt : i < n := by omega
    refine codeAny_builtin PySem.F.entry_extend_loop ?_
    rw [Around.under_plainId PySem.F.plain_extend_loop _]
    show wpAny _ A.in1 (pyNext (.ref z) >>= _) _ _ s
    refine wpAny_bind (zip_turn (A := A.in1) hh D I hf st (same_seqT S hx) (same_seqT S hy) (x := xs[i]'(by omega)) (y := ys[i]'(by omega)) (by simp) (by simp) fun T s' nT I' st' nf kk eT => ?_)
    show wpAny _ A.in1 (updateSeq q (·.push (.ref T)) >>= _) _ _ _
    have qT : q ≠ T := ne_of_none hq nT
    have hq' : (upd H T (.tup [xs[i]'(by omega), ys[i]'(by omega)])) q = some (.lst (ps.map V.ref)) := by
      rw [upd_ne qT]
      exact hq
    obtain ⟨sz, its, m, rv, hlen, e⟩ := I'.lstM hq'
    rw [List.length_map] at hlen
    refine wpAny_bind (wpAny_updateSeq e rfl (wpAny_pure ⟨plainId_quiet PySem.F.plain_extend_loop _, ?_⟩) (by rw [List.size_toArray]; omega) (by show (its.toArray.push (Value.ref T)).size ≤ sizeLine + 1; rw [Array.size_push, List.size_toArray]; omega))
    have I2 := I'.lset (its' := its ++ [.ref T]) (ys := (ps ++ [T]).map V.ref) (f := (·.push (Value.ref T))) (t' := s'.toks) hq' e (by simp) (by rw [List.map_append]; exact rv.append (.cons rfl .nil)) (by rw [List.length_map, List.length_append, List.length_singleton]; omega)
    refine ih (i + 1) (ps ++ [T]) _ _ (by omega) (by omega) I2 (fun c hc => ?_) (st'.keep fun c hc o w => ?_) ?_ upd_same (by rw [List.length_append, List.length_singleton]; omega) ?_
    · have cq : c ≠ q := fun w => qf (w ▸ hc)
      exact ⟨by rw [upd_ne cq]; exact nf c hc, (hf c hc).2⟩
    · have cq : c ≠ q := fun w => qf (w ▸ hc)
      exact (Heap.get?_update_other _ _ (Ne.symm cq)).trans w
    · intro c o w
      have cq : c ≠ q := fun e => by rw [e, qn] at w; cases w
      rw [upd_ne cq, upd_ne (ne_of_none (S c o w) nT)]
      exact S c o w
    · intro j p ej
      have tq : T ≠ q := Ne.symm qT
      by_cases hj : j < ps.length
      · rw [List.getElem?_append_left hj] at ej
        obtain ⟨x, y, f1, f2, f3⟩ := hp j p ej
        refine ⟨x, y, f1, f2, ?_⟩
        rw [upd_ne (ne_of f3 hq (fun z => nomatch z)), upd_ne (ne_of_none f3 nT)]
        exact f3
      · rw [List.getElem?_append_right (by omega)] at ej
        have ej0 : j = i := by
          have := (List.getElem?_eq_some_iff.mp ej).1
          simp at this
          omega
        subst ej0
        rw [hl] at ej
        simp at ej
        subst ej
        exact ⟨xs[j]'(by omega), ys[j]'(by omega), by simp, by simp, by rw [upd_ne tq]; exact upd_same⟩
/-- what collect makes of zip(a, b) -/
theorem collect_zip {Q : List Value → Shared → Prop} {A : Around} (hh : A.handled = none) (D : ZipAp z TI TO i1 i2 a b) (hn : n ≤ xs.length) (hn2 : n ≤ ys.length) (he : n = xs.length ∨ n = ys.length) (hz : n < sizeLine)
    (I : Inv X pins σ H s) (hf : ∀ c ∈ [z, TI, TO, i1, i2], FpOk X pins H c) (st : ZipSt z TI TO i1 i2 a b 0 s.heap) (hx : SqT X.K H a xs) (hy : SqT X.K H b ys)
    (q : ∀ H' s' ps, Inv X pins σ H' s' → Same H H' → ps.length = n → PairsAt H' ps xs ys → Q (ps.map Value.ref) s') : wpAny (model X.prog X.w) A (collect (.ref z)) Q E s := by
  unfold collect
  refine wpAny_bind (wpAny_runValue (codeAny_builtin PySem.F.entry_proto_collect ?_))
  rw [Around.under_plainId PySem.F.plain_proto_collect _]
  show wpAny _ A.in1 (newList [] >>= fun l => again (.builtin "list.__iadd__" ⟨[l, .ref z], []⟩)) _ _ s
  refine wpAny_bind (wpAny_newObj_type ?_)
  refine wpAny_pure ⟨plainId_quiet PySem.F.plain_list_iadd _, codeAny_builtin PySem.F.entry_list_iadd ?_⟩
  rw [Around.under_plainId PySem.F.plain_list_iadd _]
  have hS : (s.heap.push { cls := .type "list", data := .seq #[] }).get? s.heap.objs.size = some { cls := .type "list", data := .seq #[] } := Heap.get?_push_size _ rfl
  have fr : H s.heap.objs.size = none := I.hok.fresh (Nat.le_refl _)
  have lt : ∀ c ∈ [z, TI, TO, i1, i2], c < s.heap.objs.size := fun c hc => by
    obtain ⟨o, ho, _⟩ := (turn_zipN (P := X.prog) (w := X.w) (K := X.K) (tg := .Name "p" default) D fun _ _ => rfl).obj 0 _ st c hc
    exact Heap.lt_size ho
  have qf : s.heap.objs.size ∉ [z, TI, TO, i1, i2] := fun hm => absurd (lt _ hm) (Nat.lt_irrefl _)
  generalize hq : s.heap.objs.size = qa at *
  have I1 : Inv X pins σ (upd H qa (.lst [])) { s with heap := s.heap.push { cls := .type "list", data := .seq #[] } } := by
    rw [← hq]
    exact I.lnew (its := []) (t' := s.toks) .nil (Nat.zero_le _)
  show wpAny _ _ (Builtin.List.listExtendWith (.ref qa) (.ref z) (.ref qa)) _ _ _
  have st3 := st.keep (h' := s.heap.push { cls := .type "list", data := .seq #[] }) fun c _ o w => Heap.get?_push_of_some _ w
  have hz3 := st3
  obtain ⟨⟨f0, f1, ok, hz4⟩, _⟩ := hz3
  unfold Builtin.List.listExtendWith
  have ty : Shared.TypeIs { s with heap := s.heap.push { cls := .type "list", data := .seq #[] } } (.ref z) "zip" := ⟨_, hz4, rfl⟩
  refine wpAny_bind (wpAny_typeOf ty ?_)
  have qz : qa ≠ z := fun e => qf (by simp [e])
  have h1 : Builtin.List.listSameRef (.ref qa) (.ref z) = false := by simp [Builtin.List.listSameRef, qz]
  have h2 : (Value.type "zip" == Value.type "list") = false := by decide
  have h3 : (Value.type "zip" == Value.type "tuple") = false := by decide
  simp only [h1, h2, h3, Bool.or_false, Bool.false_eq_true, if_false]
  refine wpAny_bind (iter_zip hz4 ?_)
  refine wpAny_bind (wpAny_holding (hint_zip hz4 ?_))
  obtain ⟨z5, its5, k5, r5, hl5, e5⟩ := I1.lstM upd_same
  cases r5
  have S0 : Same H (upd H qa (.lst [])) := same_new (Same.refl H) fr
  have nf2 : ∀ c ∈ [z, TI, TO, i1, i2], FpOk X pins (upd H qa (.lst [])) c := fun c hc => ⟨by rw [upd_ne (fun e : c = qa => qf (e ▸ hc))]; exact (hf c hc).1, (hf c hc).2⟩
  have fin : ∀ s', Inv X pins σ (upd H qa (.lst [])) s' → ZipSt z TI TO i1 i2 a b 0 s'.heap → codeAny (model X.prog X.w) A (.builtin "list.extend.loop" ⟨[.ref qa, .ref z, .ref qa], []⟩) (fun r s' => match r with
      | .ok (.ret v) => wpAny (model X.prog X.w) A (match v with | .ref a => (do match (← load a).data with | .seq xs _ => pure xs.toList | _ => unsupported "internal:collect") | _ => unsupported "internal:collect") Q E s'
      | .ok _ => False
      | .error e => E e s') s' := fun s' J st' => by
    refine fill_zipF (ret := .ref qa) (A := A) (H0 := H) hh D hn hn2 he hz qf fr hx hy (fun H' s2 ps J' S' hq' hl' hp' => ?_) n 0 [] _ _ rfl (Nat.zero_le _) J nf2 st' S0 upd_same rfl (fun i p e => by simp at e)
    obtain ⟨sz, its, m, rv, hlen, e⟩ := J'.lstM hq'
    show wpAny _ A (load qa >>= _) _ _ _
    refine wpAny_bind (wpAny_load e ?_)
    refine wpAny_pure ?_
    rw [vals_refs rv]
    exact q H' s2 ps J' S' hl' hp'
  refine wpAny_ite_split (fun _ => ?_) (fun _ => wpAny_pure ⟨plainId_quiet PySem.F.plain_extend_loop _, fin _ I1 st3⟩)
  refine wpAny_bind (wpAny_rule ?_)
  refine wpAny_bind ?_
  show wpAny _ _ (updateSeq qa (·.push .none) >>= fun _ => updateSeq qa (·.pop)) _ _ _
  refine wpAny_bind (wpAny_updateSeq e5 rfl ?_)
  have I3 := I1.lset (f := (·.push Value.none)) (its' := [Value.none]) (ys := [.non]) (t' := s.toks) upd_same e5 (by simp) (.cons rfl .nil) (by rw [List.length_singleton, sizeLine_eq]; decide)
  obtain ⟨z6, its6, k6, r6, hl6, e6⟩ := I3.lstM upd_same
  obtain ⟨u6, rfl, ru6⟩ := r6.one
  refine wpAny_updateSeq e6 rfl ?_ (by show 1 ≤ sizeLine; rw [sizeLine_eq]; decide) (by show 0 ≤ sizeLine + 1; exact Nat.zero_le _)
  have I4 := I3.lset (f := (·.pop)) (its := [u6]) (its' := []) (ys := []) (t' := s.toks) upd_same e6 (by rfl) .nil (Nat.zero_le _)
  rw [upd_upd, upd_upd] at I4
  have oth : ∀ (h : Heap) (f : Obj → Obj) (c : Addr), c ∈ [z, TI, TO, i1, i2] → ∀ o, h.get? c = some o → (h.update qa f).get? c = some o := fun h f c hc o w => (Heap.get?_update_other _ _ (fun e : qa = c => qf (e ▸ hc))).trans w
  exact wpAny_pure ⟨plainId_quiet PySem.F.plain_extend_loop _, fin _ I4 ((st3.keep (oth _ _)).keep (oth _ _))⟩
end
theorem each_of {ps : List Addr} {bs : List (Addr × Int × Str)} {h : Heap} (hb : ∀ b ∈ bs, ∃ as, Reads h (.ref b.1) (.tuple [.int b.2.1, .str b.2.2]) as) : PySem.W.EachIs (fun v b => ∃ as, Reads h v ((fun z : Addr × Int × Str => PyData.tuple [.int z.2.1, .str z.2.2]) b) as) (bs.map fun b => Value.ref b.1) bs := by
  induction bs with
  | nil => exact .nil
  | cons b r ih => exact .cons (hb b (List.mem_cons_self ..)) (ih fun x hx => hb x (List.mem_cons_of_mem _ hx))
/-- sorted(zip(a, b), reverse=True), a of whole numbers, b of texts -/
def tSortZip (K : PySem.W.Frag) (ta : TA) : TE := fun σ H Q => ta σ H fun vs H1 => ∃ (a b : Addr) (ns : List Int) (ts : List Str), vs = [.ref a, .ref b] ∧ SqT K H1 a (ns.map V.int) ∧ SqT K H1 b (ts.map V.str) ∧ ns.length = ts.length ∧ ns.length < sizeLine ∧
  ∀ (l : Addr) (H' : Hp) (bs : List (Addr × Int × Str)), H1 l = none → Same H1 H' → H' l = some (.lst (bs.map fun z => V.ref z.1)) → (bs.map (·.2)).Perm (ns.zip ts) → (bs.map (·.2.1)).Pairwise (fun x y => y ≤ x) → (∀ z ∈ bs, H' z.1 = some (.tup [.int z.2.1, .str z.2.2])) → Q (.ref l) H'
end Far

namespace Far
open PySem PySem.Spec PyProof.Rows L2
/-- what stands at the pairs made by zip -/
def pair2 : List Addr → List Int → List Str → List (Addr × Int × Str)
  | p :: ps, n :: ns, t :: ts => (p, n, t) :: pair2 ps ns ts
  | _, _, _ => []
theorem pair2_fst : ∀ {ps : List Addr} {ns : List Int} {ts : List Str}, ps.length = ns.length → ns.length = ts.length → (pair2 ps ns ts).map (·.1) = ps ∧ (pair2 ps ns ts).map (·.2) = ns.zip ts
  | [], [], [], _, _ => ⟨rfl, rfl⟩
  | p :: ps, n :: ns, t :: ts, h1, h2 => by
    obtain ⟨a, b⟩ := pair2_fst (ps := ps) (ns := ns) (ts := ts) (by simpa using h1) (by simpa using h2)
    exact ⟨by show p :: _ = _; rw [a], by show (n, t) :: _ = _; rw [b]; rfl⟩
  | [], _ :: _, _, h1, _ => by simp at h1
  | _ :: _, [], _, h1, _ => by simp at h1
  | _, [], _ :: _, _, h2 => by simp at h2
  | _, _ :: _, [], _, h2 => by simp at h2
theorem pair2_at {H : Hp} : ∀ {ps : List Addr} {ns : List Int} {ts : List Str}, PairsAt H ps (ns.map V.int) (ts.map V.str) → ∀ z ∈ pair2 ps ns ts, H z.1 = some (.tup [.int z.2.1, .str z.2.2])
  | [], _, _, _, z, hz => by simp [pair2] at hz
  | _ :: _, [], _, _, z, hz => by simp [pair2] at hz
  | _ :: _, _ :: _, [], _, z, hz => by simp [pair2] at hz
  | p :: ps, n :: ns, t :: ts, h, z, hz => by
    rcases List.mem_cons.mp hz with rfl | hz
    · obtain ⟨x, y, e1, e2, e3⟩ := h 0 p rfl
      cases e1
      cases e2
      exact e3
    · exact pair2_at (fun i q e => h (i + 1) q e) z hz
def encZ (z : Addr × Int × Str) : PyData := .tuple [.int z.2.1, .str z.2.2]
theorem encZ_alike (bs : List (Addr × Int × Str)) : PySem.W.AllAlike (bs.map encZ) := by
  intro d hd d' hd'
  obtain ⟨u, _, rfl⟩ := List.mem_map.mp hd
  obtain ⟨u', _, rfl⟩ := List.mem_map.mp hd'
  simp [encZ, PySem.W.alike, PySem.W.alikeAll]
theorem encZ_sortable (bs : List (Addr × Int × Str)) : PySem.W.Sortable (bs.map encZ) := .inl fun d hd => by
  obtain ⟨u, _, rfl⟩ := List.mem_map.mp hd
  exact ⟨_, _, rfl⟩
def leZ (x y : Addr × Int × Str) : Prop := y.2.1 < x.2.1 ∨ (y.2.1 = x.2.1 ∧ y.2.2.cps.toList ≤ x.2.2.cps.toList)
theorem leZ_of {x y : Addr × Int × Str} : PySem.W.dataLe true encZ x y = true ↔ leZ x y := by
  rw [PySem.W.dataLe_eq]
  show (!PySem.W.dataLt (encZ x) (encZ y)) = true ↔ _
  unfold encZ leZ
  rw [PySem.W.dataLt_pair (by simp [PySem.W.alike]) (by simp [PySem.W.alike]), PySem.W.dataLt_int, PySem.W.dataLt_str]
  by_cases c : x.2.1 = y.2.1
  · by_cases d : x.2.2 = y.2.2
    · simp only [PyData.eqv, c, d, beq_self_eq_true, if_true, Bool.not_false, true_iff]
      exact .inr ⟨trivial, List.le_refl _⟩
    · have d' : (x.2.2 == y.2.2) = false := by simpa using d
      simp only [PyData.eqv, c, d', beq_self_eq_true, if_true, Bool.false_eq_true, if_false, Bool.not_eq_true', decide_eq_false_iff_not, List.not_lt]
      refine ⟨fun h => .inr ⟨trivial, h⟩, fun h => h.elim (fun z => absurd z (Int.lt_irrefl _)) (·.2)⟩
  · have c' : (x.2.1 == y.2.1) = false := by simpa using c
    simp only [PyData.eqv, c', Bool.false_eq_true, if_false, Bool.not_eq_true', decide_eq_false_iff_not]
    constructor
    · intro h
      left
      omega
    · intro h
      rcases h with h | h
      · omega
      · exact absurd h.1.symm c
theorem leZ_trans {x y z : Addr × Int × Str} (h1 : leZ x y) (h2 : leZ y z) : leZ x z := by
  rcases h1 with h1 | ⟨h1, k1⟩ <;> rcases h2 with h2 | ⟨h2, k2⟩
  · left; omega
  · left; omega
  · left; omega
  · right; exact ⟨h2.trans h1, List.le_trans k2 k1⟩
theorem leZ_total (x y : Addr × Int × Str) : leZ x y ∨ leZ y x := by
  unfold leZ
  rcases Int.lt_trichotomy x.2.1 y.2.1 with h | h | h
  · exact .inr (.inl h)
  · rcases List.le_total x.2.2.cps.toList y.2.2.cps.toList with k | k
    · exact .inr (.inr ⟨h, k⟩)
    · exact .inl (.inr ⟨h.symm, k⟩)
  · exact .inl (.inl h)
theorem geZ {x y : Addr × Int × Str} (h : PySem.W.dataLe true encZ x y = true) : y.2.1 ≤ x.2.1 := by
  rcases leZ_of.mp h with h | h <;> omega
theorem each_refs {P : Value → Addr × Int × Str → Prop} : ∀ (bs : List (Addr × Int × Str)), (∀ b ∈ bs, P (.ref b.1) b) → PySem.W.EachIs P (bs.map fun b => Value.ref b.1) bs
  | [], _ => .nil
  | b :: r, h => .cons (h b List.mem_cons_self) (each_refs r fun x hx => h x (List.mem_cons_of_mem _ hx))
theorem vals_ofrefs : ∀ (bs : List (Addr × Int × Str)), Vals (bs.map fun b => V.ref b.1) (bs.map fun b => Value.ref b.1)
  | [] => .nil
  | _ :: r => .cons rfl (vals_ofrefs r)
theorem vals_each : ∀ {out : List Value} {bs : List (Addr × Int × Str)}, PySem.W.EachIs (fun (v : Value) (b : Addr × Int × Str) => v = .ref b.1) out bs → Vals (bs.map fun b => V.ref b.1) out
  | [], [], .nil => .nil
  | _ :: _, _ :: _, .cons h t => .cons (by rw [h]; rfl) (vals_each t)
section
variable {X : Cx}
theorem srt_pairs (hr : Room 2 X.A) {pins : List (Addr × Obj)} {σ : L2.St} {H1 : Hp} {s : Shared} {z TI TO i1 i2 a b : Addr} {ns : List Int} {ts : List Str} {Q : VK} (I : Inv X pins σ H1 s) (hh : X.A.handled = none) (D : ZipAp z TI TO i1 i2 a b)
    (hf : ∀ c ∈ [z, TI, TO, i1, i2], FpOk X pins H1 c) (st : ZipSt z TI TO i1 i2 a b 0 s.heap) (hx : SqT X.K H1 a (ns.map V.int)) (hy : SqT X.K H1 b (ts.map V.str)) (hl : ns.length = ts.length) (hz : ns.length < sizeLine)
    (q : ∀ (l : Addr) (H' : Hp) (bs : List (Addr × Int × Str)), H1 l = none → Same H1 H' → H' l = some (.lst (bs.map fun z => V.ref z.1)) → (bs.map (·.2)).Perm (ns.zip ts) → (bs.map (·.2.1)).Pairwise (fun x y => y ≤ x) → (∀ z ∈ bs, H' z.1 = some (.tup [.int z.2.1, .str z.2.2])) → Q (.ref l) H') :
    wpAny (model X.prog X.w) X.A (call (.builtin "sorted") [.ref z] [(Str.ofString "reverse", .bool true)]) (EP X pins σ Q) X.xe s := by
  refine call_function_entry_kw kind_sorted plain_sorted entry_sorted (args_sorted_rev _ _) ?_
  unfold Builtin.«sorted»
  refine wpAny_bind (m := checkCount "sorted" 1 1 _) (wpAny_pure ?_)
  refine wpAny_bind (collect_zip (n := ns.length) (A := X.A.in1) hh D (by simp) (by simp [hl]) (.inl (by simp)) hz I hf st hx hy fun H' s2 ps J S hp pa => ?_)
  obtain ⟨e1, e2⟩ := pair2_fst (ps := ps) (ns := ns) (ts := ts) hp hl
  have at2 := pair2_at pa
  generalize pair2 ps ns ts = bs at e1 e2 at2
  have hlen : bs.length = ns.length := by rw [← hp, ← e1, List.length_map]
  have er : ps.map Value.ref = bs.map fun b => Value.ref b.1 := by rw [← e1, List.map_map]; rfl
  rw [er]
  refine wpAny_bind (wpAny_newList (hsz := by rw [List.length_map, hlen]; exact Nat.le_of_lt hz) ?_)
  have ho : (s2.heap.push { cls := .type "list", data := .seq (bs.map fun b => Value.ref b.1).toArray }).get? s2.heap.objs.size = some (seqObj "list" (bs.map fun b => Value.ref b.1).toArray 0) := Heap.get?_push_size _ rfl
  have J1 : Inv X pins σ (upd H' s2.heap.objs.size (.lst (bs.map fun z => V.ref z.1))) { s2 with heap := s2.heap.push { cls := .type "list", data := .seq (bs.map fun b => Value.ref b.1).toArray } } := by
    refine J.lnew (its := bs.map fun b => Value.ref b.1) (t' := s2.toks) (vals_ofrefs bs) ?_
    rw [List.length_map, hlen]
    exact Nat.le_of_lt hz
  have fr : H' s2.heap.objs.size = none := J.hok.fresh (Nat.le_refl _)
  have old : ∀ b u, s2.heap.get? b = some u → b ≠ s2.heap.objs.size ∧ (s2.heap.push { cls := .type "list", data := .seq (bs.map fun b => Value.ref b.1).toArray }).get? b = some u := fun b u e => ⟨Nat.ne_of_lt (Heap.lt_size e), Heap.get?_push_of_some _ e⟩
  refine wpAny_bind (wpAny_holding (PySem.W.list_sort_rev_data (b := true) (R := fun v b => v = .ref b.1) (enc := encZ) (bs := bs) ho (each_refs bs fun _ _ => rfl) (each_refs bs fun b hb => ?_) (encZ_alike bs) (encZ_sortable bs) ?_ ?_ ?_))
  · have w : (upd H' s2.heap.objs.size (.lst (bs.map fun z => V.ref z.1))) b.1 = some (.tup [.int b.2.1, .str b.2.2]) := by
      rw [upd_ne (ne_of_none (at2 b hb) fr)]
      exact at2 b hb
    obtain ⟨_, its, rv, ht⟩ := J1.hok _ _ w
    cases rv with
    | cons r0 rr =>
      cases rr with
      | cons r1 rr =>
        cases rr
        obtain ⟨t0, rfl⟩ := r0
        obtain ⟨t1, rfl⟩ := r1
        obtain ⟨o, ho1, ho2, n0, ho3⟩ := ht
        exact ⟨[] ++ ([] ++ []), .tuple ho1 ho2 ho3 (.cons (.int _ _) (.cons (.str _ _) .nil)), by simp⟩
  · rw [hlen]
    exact Nat.le_of_lt hz
  · intro b _
    have := hr.un
    have e : (encZ b).depth = 1 := by simp [encZ, PyData.depth, PyData.depthAll]
    rw [e]
    show X.A.units + 1 + 1 + 1 < cLine
    omega
  · intro out ho2 eo
    refine wpAny_pure ⟨_, rfl, ?_⟩
    obtain ⟨ep, he⟩ := PyProof.Rows.sortedHeap_at (out := out.toArray) ho
    have hm : (bs.mergeSort (PySem.W.dataLe true encZ)).Perm bs := List.mergeSort_perm _ _
    refine ⟨.ref s2.heap.objs.size, upd H' s2.heap.objs.size (.lst ((bs.mergeSort (PySem.W.dataLe true encZ)).map fun z => V.ref z.1)), J.laid (t' := s2.toks) (fun b u e => (PyProof.Rows.sortedHeap_old (old b u e).1 (Heap.lt_size (old b u e).2)).trans (old b u e).2) (Nat.le_refl _) ⟨by rw [List.length_map, List.length_mergeSort, hlen]; exact Nat.le_of_lt hz, out, ep, vals_each eo, he⟩, rfl, ?_⟩
    refine q _ _ (bs.mergeSort (PySem.W.dataLe true encZ)) ?_ ?_ upd_same ?_ ?_ fun z hz => ?_
    · cases hh1 : H1 s2.heap.objs.size with
      | none => rfl
      | some o => rw [S _ _ hh1] at fr; cases fr
    · intro c o w
      rw [upd_ne (ne_of_none (S _ _ w) fr)]
      exact S _ _ w
    · rw [← e2]
      exact hm.map _
    · have hp := List.pairwise_mergeSort (le := PySem.W.dataLe true encZ) ?_ ?_ bs
      · exact (List.pairwise_map.mpr (hp.imp fun h => geZ h))
      · exact fun x y z h1 h2 => leZ_of.mpr (leZ_trans (leZ_of.mp h1) (leZ_of.mp h2))
      · intro x y
        rw [Bool.or_eq_true, leZ_of, leZ_of]
        exact leZ_total x y
    · rw [upd_ne (ne_of_none (at2 z (hm.mem_iff.mp hz)) fr)]
      exact at2 z (hm.mem_iff.mp hz)
theorem pe_sortZip {e e2 : Expr} {ta : TA} {p p2 q kp cp pos : Pos} {cc : Nat} (hr : Room 2 X.A) (hg : Gl X "sorted") (hm : X.mg "sorted" = none) (hg2 : Gl X "zip") (hm2 : X.mg "zip" = none) (ha : PA X [e, e2] ta) (hc : X.calm = true := by rfl)
    (hs : starEach [e, e2] X.env = (false, eval e X.env) :: starEach [e2] X.env := by rfl) (hpl : (backTo q (starEach [e2] X.env)).any (·.1) = false := by rfl) :
    PE X (.Call (.Name "sorted" p) [.Call (.Name "zip" p2) [e, e2] [] q] [⟨some "reverse", .Constant (.bool true) cc cp, kp⟩] pos) (tSortZip X.K ta) := by
  refine ⟨fun pins s σ H Q I h => ?_⟩
  refine wpAny_Call_Name_kw (ld_blt I hg hm bt_sorted19 ?_)
  refine PyProof.Rows.callWith_kw (PyProof.Rows.args_cons ?_) rfl rfl rfl rfl
  refine Call_ (ld_blt I hg2 hm2 PyProof.Rows.boot_zip (PyProof.Rows.callWith_type1 (thn (ha.run q pins s σ H _ I h) fun us s1 ⟨vs, H1, I1, r1, q1⟩ => ?_) hs hpl))
  obtain ⟨a, b, ns, ts, ex, hx, hy, hl, hz, q1⟩ := q1
  subst ex
  cases r1 with
  | cons r rr =>
    cases rr with
    | cons r' rr =>
      cases rr
      cases r
      cases r'
      refine zip_made I1 hx hy fun z TI TO i1 i2 s' D I' st hf _ => ?_
      refine PyProof.Rows.args_nil ?_
      show wpAny _ _ (evalAll [(do let v ← eval (.Constant (.bool true) cc cp) X.env; standAt pos; pure v)]) _ _ s'
      refine wpAny_evalAll_cons (wpAny_bind (Constant_bool ?_))
      refine wpAny_bind (wpAny_standAt (wpAny_pure (wpAny_evalAll_nil ?_)))
      exact srt_pairs hr I' (I'.ok.hd hc) D hf st hx hy hl hz fun l H' bs h1 h2 h3 h4 h5 h6 => q1 l H' bs h1 h2 h3 h4 h5 h6
end
end Far

namespace Far
open PySem PySem.Spec PyProof.Rows L2
open C8 (pss_cut tCut)
open SX (S)
/-! ### rules with the written part named -/
theorem slTK {X : Cx} {K : PySem.W.Frag} (e : X.K = K := by rfl) : SlR X (rSlT K) := by
  subst e
  exact sl_tup
theorem slLK {X : Cx} {K : PySem.W.Frag} (e : X.K = K := by rfl) : SlR X (rSlL K) := by
  subst e
  exact sl_list
theorem pi_tupK {X : Cx} {K : PySem.W.Frag} {tg l : Expr} {tl : TE} (hl : PE X l tl) (e : X.K = K := by rfl) : PI X tg l (iTup K tl) := by
  subst e
  exact pi_tup hl
theorem pi_listK {X : Cx} {K : PySem.W.Frag} {tg l : Expr} {tl : TE} (hl : PE X l tl) (e : X.K = K := by rfl) : PI X tg l (iList K tl) := by
  subst e
  exact pi_list hl
theorem inK {X : Cx} {K : PySem.W.Frag} (e : X.K = K := by rfl) : OpR X (compareOp .In) (rIn K false) := by
  subst e
  exact op_in_seq
theorem notInK {X : Cx} {K : PySem.W.Frag} (e : X.K = K := by rfl) : OpR X (compareOp .NotIn) (rIn K true) := by
  subst e
  exact op_notIn_seq
theorem hd65 {A : Around} {k : Nat} (hr : Room k A) (h : 2 ≤ k) : A.units + 65 < cLine := by
  have := hr.un
  omega
end Far

namespace Far
open PySem PySem.Spec PyProof.Rows L2
/-! ### whole numbers from 0 on by their bits; rows of whole numbers in their order -/
theorem pow2_cast (k : Nat) : (2 : Int) ^ k = ((2 ^ k : Nat) : Int) := by
  induction k with
  | zero => rfl
  | succ k ih => rw [Int.pow_succ, ih, Nat.pow_succ]; omega
theorem bor_nat (a b : Nat) : Builtin.bitOr (a : Int) (b : Int) = ((a ||| b : Nat) : Int) := by
  rw [PyProof.Rows.bitOr_and, PySem.W.os_band]
  have := PyProof.Rows.nat_or_add_and a b
  omega
section
variable {X : Cx}
theorem op_oneShlK : OpR X (binaryOp .LShift) (fun x y H Q => ∃ k : Nat, x = .int 1 ∧ y = .int (k : Int) ∧ k ≤ 1000 ∧ Q (.int ((2 ^ k : Nat) : Int)) H) := by
  intro pins s σ H x y v u Q I rx ry h
  obtain ⟨k, rfl, rfl, c, q⟩ := h
  rw [← pow2_cast] at q
  exact op_oneShl pins s σ H _ _ v u Q I rx ry ⟨k, rfl, rfl, by omega, q⟩
theorem op_shrK : OpR X (binaryOp .RShift) (fun x y H Q => ∃ n k : Nat, x = .int (n : Int) ∧ y = .int (k : Int) ∧ Q (.int ((n / 2 ^ k : Nat) : Int)) H) := by
  intro pins s σ H x y v u Q I rx ry h
  obtain ⟨n, k, rfl, rfl, q⟩ := h
  refine op_shrN pins s σ H _ _ v u Q I rx ry ⟨n, k, rfl, rfl, ?_⟩
  rw [pow2_cast]
  exact q
theorem op_orK : OpR X (binaryOp .BitOr) (fun x y H Q => ∃ a b : Nat, x = .int (a : Int) ∧ y = .int (b : Int) ∧ Q (.int ((a ||| b : Nat) : Int)) H) := by
  intro pins s σ H x y v u Q I rx ry h
  obtain ⟨a, b, rfl, rfl, q⟩ := h
  refine op_or pins s σ H _ _ v u Q I rx ry ⟨a, b, rfl, rfl, ?_⟩
  show Q (.int (Builtin.bitOr (a : Int) (b : Int))) H
  rw [bor_nat]
  exact q
theorem dp_ints {K : PySem.W.Frag} {H : Hp} : ∀ ns : List Int, DpAll K H (ns.map V.int) (ns.map PyData.int)
  | [] => .nil
  | n :: r => .cons (.int n) (dp_ints r)
def rLtL (K : PySem.W.Frag) : R2 := fun x y H Q => ∃ (a b : Addr) (xs ys : List Int), x = .ref a ∧ y = .ref b ∧ SqL K H a (xs.map V.int) ∧ SqL K H b (ys.map V.int) ∧ Q (.bl (decide (xs < ys))) H
theorem ints_alike : ∀ xs ys : List Int, PySem.W.alikeAll (xs.map PyData.int) (ys.map PyData.int) = true
  | [], [] => by simp [PySem.W.alikeAll]
  | x :: xs, y :: ys => by
    have := ints_alike xs ys
    simp [PySem.W.alikeAll, PySem.W.alike, this]
  | [], _ :: _ => by simp [PySem.W.alikeAll]
  | _ :: _, [] => by simp [PySem.W.alikeAll]
theorem ints_depth : ∀ xs : List Int, PyData.depthAll (xs.map PyData.int) = 0
  | [] => rfl
  | x :: xs => by
    show max 0 (PyData.depthAll (xs.map PyData.int)) = 0
    rw [ints_depth xs]
    rfl
theorem op_ltL {K : PySem.W.Frag} (hu : X.A.units + 64 < cLine) (eK : X.K = K := by rfl) : OpR X (compareOp .Lt) (rLtL K) := by
  subst eK
  intro pins s σ H x y v u Q I rx ry h
  obtain ⟨a, b, xs, ys, rfl, rfl, hx, hy, q⟩ := h
  obtain ⟨as, r1⟩ := Dp.reads I (.list (xs.map .int)) (.ref a) v (.lst hx (dp_ints xs)) rx
  obtain ⟨bs, r2⟩ := Dp.reads I (.list (ys.map .int)) (.ref b) u (.lst hy (dp_ints ys)) ry
  have e : PySem.W.dataLt (.list (xs.map .int)) (.list (ys.map .int)) = decide (xs < ys) := by
    rw [PySem.W.dataLt_list]
    exact PySem.W.dataLt_ints xs ys
  refine PySem.W.lt_data r1 r2 (by unfold PySem.W.alike; exact ints_alike xs ys) (fun z => by cases z) ?_ ?_
  · have d : (PyData.list (xs.map .int)).depth = 1 := by
      show PyData.depthAll (xs.map PyData.int) + 1 = 1
      rw [ints_depth]
    rw [d]
    omega
  · rw [e]
    exact ⟨.bl _, H, I, rfl, q⟩
end
end Far

namespace Far
open PySem PySem.Spec PyProof.Rows L2
open C8 (pss_cut tCut)
open SX (S)
structure TxtE (mg : Str → Option Value) : Prop where
  dict : mg "dict" = none
  zip : mg "zip" = none
  max : mg "max" = none
  len : mg "len" = none
  range : mg "range" = none
  tuple : mg "tuple" = none
  enumerate : mg "enumerate" = none
  min : mg "min" = none
/-- how far all places are from each, in dicts of their own -/
structure ApAt (H : Hp) (D : Addr) (ad : Nm → Addr) (pl : List Nm) (ts : List Tie) (ps : List Nm) : Prop where
  out : H D = some (.dK (dkm ps fun x => .ref (ad x)))
  inn : ∀ x ∈ ps, H (ad x) = some (.dK (dkm pl fun y => .int (dist ts x y)))
  ne : ∀ x ∈ ps, ad x ≠ D
theorem ApAt.same {H H' : Hp} {D : Addr} {ad : Nm → Addr} {pl ps : List Nm} {ts : List Tie} (h : ApAt H D ad pl ts ps) (s : Same H H') : ApAt H' D ad pl ts ps := ⟨s _ _ h.out, fun x hx => s _ _ (h.inn x hx), h.ne⟩
/-- a walk over a list, whatever a turn does -/
theorem walk_lst {K : PySem.W.Frag} {a : Addr} {xs : List V} {B : (Hp → Prop) → V → Hp → Prop} {H0 : Hp} {Qd : Hp → Prop} (Pv : Nat → Hp → Prop) (h0 : Pv 0 H0) (hl : ∀ i H, Pv i H → SqL K H a xs) (hs : ∀ i x H, xs[i]? = some x → Pv i H → B (Pv (i + 1)) x H) (hd : ∀ H, Pv xs.length H → Qd H) :
    ∃ W : Nat → Nat → Hp → Prop, (∃ m, W 0 m H0) ∧ ∀ i m H, W i m H → ((Itl K a).stop i H ∧ Qd H) ∨ ((Itl K a).go i H ∧ ∃ Nx : Hp → Prop, (∀ H', Nx H' → ∃ m', m' < m ∧ W (i + 1) m' H') ∧ ∀ x H', (Itl K a).yld i H x H' → B Nx x H') := by
  refine ⟨fun i m H => m = xs.length - i ∧ i ≤ xs.length ∧ Pv i H, ⟨xs.length, by simp, Nat.zero_le _, h0⟩, fun i m H ⟨em, hi, p⟩ => ?_⟩
  have q := hl i H p
  by_cases lt : i < xs.length
  · refine .inr ⟨⟨xs, xs[i], q, by simp [lt]⟩, Pv (i + 1), fun H' p' => ⟨xs.length - (i + 1), by omega, rfl, lt, p'⟩, fun x H' y => ?_⟩
    obtain ⟨e, y⟩ := y
    rw [e]
    exact hs i x _ (y xs q) p
  · have e : i = xs.length := by omega
    rw [e] at p
    exact .inl ⟨⟨xs, q, by omega⟩, hd H p⟩
/-- pairs put one after another, each once -/
theorem merge_dkm : ∀ {qs ps : List Nm} {f : Nm → V}, (ps ++ qs).Nodup → mergeK (dkm ps f) (dkm qs f) = dkm (ps ++ qs) f
  | [], ps, f, _ => by rw [List.append_nil]; rfl
  | q :: qs, ps, f, nd => by
    have nq : q ∉ ps := fun h => (List.nodup_append.mp nd).2.2 q h q List.mem_cons_self rfl
    have e1 : mergeK (dkm ps f) (dkm (q :: qs) f) = mergeK (putK (dkm ps f) (Sum.inr (S q)) (f q)) (dkm qs f) := rfl
    have e2 : dkm (ps ++ [q]) (fun z => if z = q then f q else f z) = dkm (ps ++ [q]) f := dkm_cong fun z _ => by
      by_cases c : z = q
      · rw [if_pos c, c]
      · rw [if_neg c]
    rw [e1, dkm_new nq, e2, merge_dkm (ps := ps ++ [q]) (by rw [List.append_assoc]; exact nd), List.append_assoc]
    rfl
theorem merge_nil {ps : List Nm} {f : Nm → V} (nd : ps.Nodup) : mergeK [] (dkm ps f) = dkm ps f := merge_dkm (ps := []) nd
theorem dkm_len (ps : List Nm) (f : Nm → V) : (dkm ps f).length = ps.length := List.length_map ..
theorem dkm_vals (ps : List Nm) (f : Nm → Int) : (dkm ps fun x => .int (f x)).map (·.2) = (ps.map f).map V.int := by
  unfold dkm
  rw [List.map_map, List.map_map]
  rfl
abbrev cs_reach : Scope := { kind := ScopeKind.function, names := [(Str.ofString ".0", NameKind.local), (Str.ofString "place", NameKind.cell), (Str.ofString "max", NameKind.globalImplicit), (Str.ofString "apart", NameKind.cell), (Str.ofString "part", NameKind.cell)], isGenerator := false, isCoroutine := false }
abbrev s_lengths_apart : Stmt := topS 33
abbrev N_lengths_apart : List Str := ["tree", "place"]
theorem sc_lengths_apart : FnScope N_lengths_apart ["tree"] (defScope s_lengths_apart) := ⟨rfl, rfl, rfl, by decide +kernel, rfl, by decide +kernel, by decide +kernel⟩
abbrev s_reaches : Stmt := topS 35
abbrev N_reaches : List Str := ["part", "apart", "place", "there"]
theorem sc_reaches : FnScope N_reaches ["part", "apart"] (defScope s_reaches) := ⟨rfl, rfl, rfl, by decide +kernel, rfl, by decide +kernel, by decide +kernel⟩
section
variable {P : Program} {w : World} {K : PySem.W.Frag} {mg : Str → Option Value} {base : Heap}
def spApart : Sp := fun vs H Q _ => ∃ (v : V) (pl : List Nm) (ts : List Tie), vs = [v] ∧ Dt H v (treeD pl ts) ∧ Fine pl ts ∧ ∀ (H' : Hp) (D : Addr) (ad : Nm → Addr), Same H H' → H D = none → ApAt H' D ad pl ts pl → Q (.ref D) H'
theorem ok_apart {f : Addr} {fd : FuncData} (F : Fun K "_lengths_apart" "_lengths_apart" s_lengths_apart f fd) (T : TxtE mg) (Clengths_from : Cal P w K mg base 3 "lengths_from" spLens) : FnOk P w K mg base CX0 4 f fd ["tree"] spApart := by
  refine F.ok sc_lengths_apart (fun vs H Q E h => ?_) (fun cdv A outer s H vs Q E hr h => ?_)
  · obtain ⟨v, pl, ts, rfl, _⟩ := h
    rfl
  · obtain ⟨v, pl, ts, rfl, hd, fine, q⟩ := h
    obtain ⟨t, a, b, rfl, ht, ha⟩ := pl0_of hd
    refine ⟨_, (pss_one (ps_ret (pe_dc (own := [("place", 1)]) (g := gName 1) (tt := tYes) rfl sc_lengths_apart.nd (pi_tup (pe_ix ix_tup (pv 0) pe_int (fun _ _ => rfl))) (blkOk_by (N := N_lengths_apart) (sc := defScope s_lengths_apart) (by decide +kernel)) (fun _ _ _ _ _ => pg_name (i := 1) sc_lengths_apart.nd rfl (Or.inl rfl)) (fun _ _ _ _ _ => pts_nil) (fun _ _ _ _ _ => (pv 1)) (fun _ _ _ _ _ => (pe_dictZip2 K rfl rfl (by rfl) T.dict bt_dict (by rfl) T.zip (pa_cons (pe_ix (ixt (K := K)) (pv 0) pe_int (fun _ _ => rfl)) (pa_cons (pe_c Clengths_from hr (by decide) rfl (pa_cons (pv 0) (pa_cons (pv 1) pa_nil))) pa_nil))))))), ?_⟩
    have nd := fine.tree.nodup
    have p1000 := fine.len
    refine ⟨_, rfl, t, _, 0, .ref a, rfl, rfl, SqT.of ht, atI_nat (j := 0) rfl, a, rfl, ⟨_, ha.sq⟩, fun D nD => ?_⟩
    refine dc_tup (K := K) (a := a) (xs := (pl.map S).map V.str) (fun i H' => ∃ ad : Nm → Addr, Same H H' ∧ ApAt H' D ad pl ts (pl.take i)) ⟨fun _ => 0, same_new (Same.refl H) nD, ⟨upd_same, fun l hl => (by cases hl), fun l hl => (by cases hl)⟩⟩ (fun i H' _ hP => ?_) (fun i x H' hi hP => ?_) (fun H' hP => ?_)
    · obtain ⟨_, sm, _⟩ := hP
      exact (ha.same sm).sq
    · obtain ⟨ad, sm, ap⟩ := hP
      obtain ⟨l, el, lm, rfl, et⟩ := at_name hi
      have ln : l ∉ pl.take i := fun hm => by
        obtain ⟨j, hj, ej⟩ := List.mem_take_iff_getElem.mp hm
        obtain ⟨hi', ei⟩ := List.getElem?_eq_some_iff.mp el
        have := (List.getElem_inj nd).mp (ej.trans ei.symm)
        omega
      refine ⟨rfl, _, rfl, _, rfl, t, _, 0, .ref a, rfl, rfl, SqT.of (sm _ _ ht), atI_nat (j := 0) rfl, ?_⟩
      refine ⟨_, rfl, _, rfl, .ref t, pl, ts, l, rfl, Dt.keep (TK.of sm) hd, fine, lm, fun H1 q1 S1 n1 h1 => ?_⟩
      have sm1 := sm.trans S1
      have ap1 := ap.same S1
      refine ⟨a, q1, dkm pl fun y => .int (dist ts l y), rfl, ?_, ?_, fun g ng => ?_⟩
      · have e : (dkm pl fun y => V.int (dist ts l y)).map (fun k => kV k.1) = (pl.map S).map V.str := by
          unfold dkm
          rw [List.map_map, List.map_map]
          rfl
        rw [e]
        exact (ha.same sm1).sq
      · have e : (dkm pl fun y => V.int (dist ts l y)).map (fun k => k.2) = pl.map fun x => .int (dist ts l x) := by
          unfold dkm
          rw [List.map_map]
          rfl
        rw [e]
        exact SqT.of h1
      rw [merge_nil nd]
      have gD : D ≠ g := ne_of_none ap1.out ng
      have sm2 := same_new (o := .dK (dkm pl fun y => .int (dist ts l y))) sm1 ng
      have ap2 := ap1.same (same_new (o := .dK (dkm pl fun y => .int (dist ts l y))) (Same.refl H1) ng)
      have hg : (upd H1 g (.dK (dkm pl fun y => .int (dist ts l y)))) g = some (.dK (dkm pl fun y => .int (dist ts l y))) := upd_same
      generalize upd H1 g (.dK (dkm pl fun y => .int (dist ts l y))) = H2 at sm2 ap2 hg
      refine ⟨_, Sum.inr (S l), rfl, ap2.out, by rw [dkm_len, List.length_take]; exact sz_lt (by omega), ?_⟩
      rw [dkm_new ln, et]
      refine ⟨fun z => if z = l then g else ad z, same_put sm2 nD, ⟨?_, fun m hm => ?_, fun m hm => ?_⟩⟩
      · rw [upd_same]
        refine congrArg (fun z => some (HO.dK z)) (dkm_cong fun z _ => ?_)
        by_cases e : z = l <;> simp [e]
      · rcases List.mem_append.mp hm with z | z
        · have ml : m ≠ l := fun e => ln (e ▸ z)
          rw [if_neg ml]
          rw [upd_ne (ap2.ne m z)]
          exact ap2.inn m z
        · rw [List.mem_singleton.mp z, if_pos rfl, upd_ne gD.symm]
          exact hg
      · show (if m = l then g else ad m) ≠ D
        rcases List.mem_append.mp hm with z | z
        · have ml : m ≠ l := fun e => ln (e ▸ z)
          rw [if_neg ml]
          exact ap2.ne m z
        · rw [List.mem_singleton.mp z, if_pos rfl]
          exact gD.symm
    · obtain ⟨ad, sm, ap⟩ := hP
      rw [List.length_map, List.length_map, List.take_length] at ap
      exact q H' D ad sm nD ap
theorem ApAt.get {H : Hp} {D : Addr} {ad : Nm → Addr} {pl : List Nm} {ts : List Tie} (h : ApAt H D ad pl ts pl) {x y : Nm} (hx : x ∈ pl) (hy : y ∈ pl) : DGet H D (.str (S x)) (some (.ref (ad x))) ∧ DGet H (ad x) (.str (S y)) (some (.int (dist ts x y))) := by
  refine ⟨?_, ?_⟩
  · rw [← dkm_get (f := fun l => V.ref (ad l)) hx]
    exact DGet.k (k := Sum.inr (S x)) h.out
  · rw [← dkm_get (f := fun l => V.int (dist ts x l)) hy]
    exact DGet.k (k := Sum.inr (S y)) (h.inn x hx)
def spReaches : Sp := fun vs H Q _ => ∃ (p D : Addr) (ad : Nm → Addr) (pl ps : List Nm) (ts : List Tie), vs = [.ref p, .ref D] ∧ H p = some (.lst ((ps.map S).map V.str)) ∧ ApAt H D ad pl ts pl ∧ (∀ x ∈ ps, x ∈ pl) ∧ ps.Nodup ∧ ps ≠ [] ∧ ps.length ≤ 1000 ∧
  ∀ (H' : Hp) (r : Addr), Same H H' → H r = none → H' r = some (.dK (dkm ps fun x => .int (rP ts ps x))) → Q (.ref r) H'
theorem ok_reaches {f : Addr} {fd : FuncData} (F : Fun K "_reaches" "_reaches" s_reaches f fd) (T : TxtE mg) : FnOk P w K mg base CX0 1 f fd ["part", "apart"] spReaches := by
  refine F.ok sc_reaches (fun vs H Q E h => ?_) (fun cdv A outer s H vs Q E hr h => ?_)
  · obtain ⟨p, D, ad, pl, ps, ts, rfl, _⟩ := h
    rfl
  · obtain ⟨p, D, ad, pl, ps, ts, rfl, hp, ap, sub, nd, ne, pl1, q⟩ := h
    refine ⟨_, (pss_one (ps_ret (pe_dc (own := [("place", 2)]) (g := gName 2) (tt := tYes) rfl sc_reaches.nd (pi_list (pv 0)) (blkOk_by (N := N_reaches) (sc := defScope s_reaches) (by decide +kernel)) (fun _ _ _ _ _ => pg_name (i := 2) sc_reaches.nd rfl (Or.inr rfl)) (fun _ _ _ _ _ => pts_nil) (fun _ _ _ _ _ => (pv 2)) (fun _ _ _ _ _ => (pe_callB (cr_maxL (K := K) rfl) (by rfl) T.max bt_max (pa_cons (pe_lc (own := [("there", 3)]) (g := gName 3) (tt := tYes) rfl sc_reaches.nd (pi_listK (K := K) (pv 0)) (blkOk_by (N := N_reaches) (sc := cs_reach) (by decide +kernel)) (fun _ _ _ _ _ => pg_name (i := 3) sc_reaches.nd rfl (Or.inl rfl)) (fun _ _ _ _ _ => pts_nil) (fun _ _ _ _ _ => (pe_dget (hu_of hr) (pe_dget (hu_of hr) (pv 1) (pv 2) (fun _ _ => rfl)) (pv 3) (fun _ _ => rfl)))) pa_nil)))))), ?_⟩
    refine ⟨_, rfl, p, rfl, ⟨_, SqL.of hp⟩, fun R nR => ?_⟩
    refine walk_lst (K := K) (a := p) (xs := (ps.map S).map V.str) (fun i H' => Same H H' ∧ H' R = some (.dK (dkm (ps.take i) fun x => .int (rP ts ps x)))) ⟨same_new (Same.refl H) nR, upd_same⟩ (fun i H' hP => SqL.of (hP.1 _ _ hp)) (fun i x H' hi hP => ?_) (fun H' hP => ?_)
    · obtain ⟨sm, hR⟩ := hP
      obtain ⟨l, el, lm, rfl, et⟩ := at_name hi
      have ln : l ∉ ps.take i := fun hm => by
        obtain ⟨j, hj, ej⟩ := List.mem_take_iff_getElem.mp hm
        obtain ⟨hi', ei⟩ := List.getElem?_eq_some_iff.mp el
        have := (List.getElem_inj nd).mp (ej.trans ei.symm)
        omega
      refine ⟨rfl, _, rfl, _, rfl, p, rfl, ⟨_, SqL.of (sm _ _ hp)⟩, fun G nG => ?_⟩
      have RG : R ≠ G := ne_of_none hR nG
      refine lc_list (K := K) (a := p) (xs := (ps.map S).map V.str) (fun j H'' => Same H H'' ∧ H'' R = some (.dK (dkm (ps.take i) fun x => .int (rP ts ps x))) ∧ H'' G = some (.lst (((ps.take j).map fun y => dist ts l y).map V.int))) ⟨same_new sm nG, by rw [upd_ne RG]; exact hR, upd_same⟩ (fun j H'' _ hP => SqL.of (hP.1 _ _ hp)) (fun j y H'' hj hP => ?_) (fun H'' hP => ?_)
      · obtain ⟨sm2, hR2, hG2⟩ := hP
        obtain ⟨m, em, mm, rfl, et2⟩ := at_name hj
        obtain ⟨g1, g2⟩ := (ap.same sm2).get (sub l lm) (sub m mm)
        refine ⟨rfl, _, rfl, _, rfl, D, .ref (ad l), rfl, g1, _, rfl, ad l, .int (dist ts l m), rfl, g2, _, hG2, by rw [List.length_map, List.length_map, List.length_take]; exact sz_lt (by omega), ?_⟩
        refine ⟨same_put sm2 (sm.free nG), by rw [upd_ne RG]; exact hR2, ?_⟩
        rw [upd_same, et2, List.map_append, List.map_append]
        rfl
      · obtain ⟨sm2, hR2, hG2⟩ := hP
        rw [List.length_map, List.length_map, List.take_length] at hG2
        refine ⟨G, _, rfl, SqL.of hG2, by rw [List.length_map]; exact List.length_pos_iff.mpr ne, fun m hm hle => ?_⟩
        rw [mxG_is hm hle]
        refine ⟨_, Sum.inr (S l), rfl, hR2, by rw [dkm_len, List.length_take]; exact sz_lt (by omega), ?_⟩
        rw [dkm_new ln, et]
        refine ⟨same_put sm2 nR, ?_⟩
        rw [upd_same]
        refine congrArg (fun z => some (HO.dK z)) (dkm_cong fun z _ => ?_)
        by_cases e : z = l
        · rw [if_pos e, e]
          rfl
        · rw [if_neg e]
    · obtain ⟨sm, hR⟩ := hP
      rw [List.length_map, List.length_map, List.take_length] at hR
      exact q H' R sm nR hR
end
end Far

namespace Far
open PySem PySem.Spec PyProof.Rows L2
open C8 (pss_cut tCut)
open SX (S)
theorem DtAll.cut {H : Hp} : ∀ (k : Nat) {vs : List V} {ds : List PyData}, DtAll H vs ds → DtAll H (vs.take k) (ds.take k) ∧ DtAll H (vs.drop k) (ds.drop k)
  | 0, _, _, h => ⟨.nil, h⟩
  | k + 1, _, _, .nil => ⟨.nil, .nil⟩
  | k + 1, _, _, .cons a t => ⟨.cons a (DtAll.cut k t).1, (DtAll.cut k t).2⟩
theorem cut_to {xs : List V} {j : Nat} (h : j ≤ xs.length) : cutV xs none (some (j : Int)) = xs.take j := by
  unfold cutV
  rw [HT.sIx_none, show HT.sIx xs.length xs.length (some (j : Int)) = min j xs.length from HT.sIx_nat _ _ j, Nat.min_eq_left h, List.drop_zero, Nat.sub_zero]
theorem cut_from {xs : List V} {j : Nat} (h : j ≤ xs.length) : cutV xs (some (j : Int)) none = xs.drop j := by
  unfold cutV
  rw [HT.sIx_none, show HT.sIx xs.length 0 (some (j : Int)) = min j xs.length from HT.sIx_nat _ _ j, Nat.min_eq_left h]
  exact List.take_of_length_le (by rw [List.length_drop]; omega)
theorem cut_toN {n j : Nat} (h : j < n) : ¬ (HT.sIx n 0 none = 0 ∧ HT.sIx n n (some (j : Int)) = n) := fun z => by
  have e : HT.sIx n n (some (j : Int)) = min j n := HT.sIx_nat _ _ j
  have := z.2
  omega
theorem cut_fromN {n j : Nat} (h : 1 ≤ j) (hn : 1 ≤ n) : ¬ (HT.sIx n 0 (some (j : Int)) = 0 ∧ HT.sIx n n none = n) := fun z => by
  have e : HT.sIx n 0 (some (j : Int)) = min j n := HT.sIx_nat _ _ j
  have := z.1
  omega
theorem tie_at {H : Hp} {i : Nat} {vs : List V} {ts : List Tie} {v : V} (h : DtAll H vs (ts.map tieD)) (hi : vs[i]? = some v) : ∃ (t : Tie) (p : Addr), ts[i]? = some t ∧ v = .ref p ∧ H p = some (.tup [.str (S t.1), .str (S t.2.1), .int t.2.2]) := by
  obtain ⟨d, hd, hv⟩ := DtAll.get h hi
  rw [List.getElem?_map] at hd
  cases e : ts[i]? with
  | none =>
    rw [e] at hd
    cases hd
  | some t =>
    rw [e] at hd
    have ed : d = tieD t := (Option.some.inj hd).symm
    subst ed
    obtain ⟨p, rfl, hp⟩ := dt_tie hv
    exact ⟨t, p, rfl, rfl, hp⟩
theorem near_self (pl : List Nm) (ts : List Tie) (e : Tie) : pl.filter (fun x => decide (x ∈ nearP pl ts e)) = nearP pl ts e := by
  refine List.filter_congr fun x hx => ?_
  by_cases c : dist ts e.1 x < dist ts e.2.1 x
  · rw [decide_eq_true c]
    exact decide_eq_true (List.mem_filter.mpr ⟨hx, decide_eq_true c⟩)
  · rw [decide_eq_false c]
    exact decide_eq_false fun z => c (of_decide_eq_true (List.mem_filter.mp z).2)
theorem off_self (pl : List Nm) (ts : List Tie) (e : Tie) : pl.filter (fun x => !decide (x ∈ nearP pl ts e)) = offP pl ts e := by
  refine List.filter_congr fun x hx => ?_
  by_cases c : dist ts e.1 x < dist ts e.2.1 x
  · rw [decide_eq_true c, decide_eq_true (show x ∈ nearP pl ts e from List.mem_filter.mpr ⟨hx, decide_eq_true c⟩)]
  · rw [decide_eq_false c, decide_eq_false (show x ∉ nearP pl ts e from fun z => c (of_decide_eq_true (List.mem_filter.mp z).2))]
abbrev s_u_parts_without : Stmt := topS 34
abbrev N_u_parts_without : List Str := ["tree", "number", "apart", "places", "ties", "one", "_", "found", "near", "far", "place"]
theorem sc_u_parts_without : FnScope N_u_parts_without ["tree", "number", "apart"] (defScope s_u_parts_without) := ⟨rfl, rfl, rfl, by decide +kernel, rfl, by decide +kernel, by decide +kernel⟩
section
variable {P : Program} {w : World} {K : PySem.W.Frag} {mg : Str → Option Value} {base : Heap}
def spParts : Sp := fun vs H Q _ => ∃ (v : V) (D : Addr) (ad : Nm → Addr) (pl : List Nm) (ts : List Tie) (i : Nat) (e : Tie), vs = [v, .int i, .ref D] ∧ Dt H v (treeD pl ts) ∧ Fine pl ts ∧ ts[i]? = some e ∧ ApAt H D ad pl ts pl ∧
  ∀ (H' : Hp) (q r1 r2 : Addr), Same H H' → H' q = some (.tup [.ref r1, .ref r2]) → H' r1 = some (.dK (dkm (nearP pl ts e) fun x => .int (rP ts (nearP pl ts e) x))) → H' r2 = some (.dK (dkm (offP pl ts e) fun x => .int (rP ts (offP pl ts e) x))) → Q (.ref q) H'
theorem ok_parts {f : Addr} {fd : FuncData} (F : Fun K "_parts_without" "_parts_without" s_u_parts_without f fd) (Cwalk_from : Cal P w K mg base 2 "walk_from" spWalkC) (C_reaches : Cal P w K mg base 1 "_reaches" spReaches) : FnOk P w K mg base CX0 3 f fd ["tree", "number", "apart"] spParts := by
  refine F.ok sc_u_parts_without (fun vs H Q E h => ?_) (fun cdv A outer s H vs Q E hr h => ?_)
  · obtain ⟨v, D, ad, pl, ts, i, e, rfl, _⟩ := h
    rfl
  · obtain ⟨v, D, ad, pl, ts, i, e, rfl, hd, fine, he, ap, q⟩ := h
    obtain ⟨t, a, b, vs, rfl, ht, ha, hb, hA⟩ := dt_tree hd
    refine ⟨_, (pss_cons (ps_asg (pv 0) (pg_tup rfl (pgs_cons (pg_name (i := 3) sc_u_parts_without.nd rfl (.inl rfl)) (pgs_cons (pg_name (i := 4) sc_u_parts_without.nd rfl (.inl rfl)) pgs_nil))))
      (pss_cons (ps_set (i := 5) sc_u_parts_without.nd rfl (.inl rfl) (pe_ix ix_tup (pe_ix ix_tup (pv 4) (pv 1) (fun _ _ => rfl)) pe_int (fun _ _ => rfl)))
      (pss_cons (ps_asg (pe_c Cwalk_from hr (by decide) rfl (pa_cons (pe_tup (pa_cons (pv 3) (pa_cons (pe_op op_catA (pe_slice sl_tup (pv 4) po_none (po_some (pv 1))) (pe_slice sl_tup (pv 4) (po_some (pe_op op_add (pv 1) pe_int)) po_none)) pa_nil))) (pa_cons (pv 5) pa_nil))) (pg_tup rfl (pgs_cons (pg_name (i := 6) sc_u_parts_without.nd rfl (.inl rfl)) (pgs_cons (pg_name (i := 7) sc_u_parts_without.nd rfl (.inr rfl)) pgs_nil))))
      (pss_cons (ps_setLc (i := 8) (own := [("place", 10)]) (g := gName 10)  rfl sc_u_parts_without.nd rfl rfl (sw_true rfl rfl rfl (by decide +kernel)) (pi_tup (pv 3)) (blkOk_by (N := N_u_parts_without) (sc := defScope s_u_parts_without) (by decide +kernel)) (fun _ _ _ _ _ => pg_name (i := 10) sc_u_parts_without.nd rfl (Or.inl rfl)) (fun _ _ _ _ _ => pts_one (pt_cmp (pc_din (hu_of hr) (pv 10) (pv 7)))) (fun _ _ _ _ _ => (pv 10)))
      (pss_cons (ps_setLc (i := 9) (own := [("place", 10)]) (g := gName 10)  rfl sc_u_parts_without.nd rfl rfl (sw_true rfl rfl rfl (by decide +kernel)) (pi_tup (pv 3)) (blkOk_by (N := N_u_parts_without) (sc := defScope s_u_parts_without) (by decide +kernel)) (fun _ _ _ _ _ => pg_name (i := 10) sc_u_parts_without.nd rfl (Or.inl rfl)) (fun _ _ _ _ _ => pts_one (pt_cmp (pc_dnotin (hu_of hr) (pv 10) (pv 7)))) (fun _ _ _ _ _ => (pv 10)))
      (pss_one (ps_ret (pe_tup (pa_cons (pe_c C_reaches hr (by decide) rfl (pa_cons (pv 8) (pa_cons (pv 2) pa_nil))) (pa_cons (pe_c C_reaches hr (by decide) rfl (pa_cons (pv 9) (pa_cons (pv 2) pa_nil))) pa_nil)))))))))), ?_⟩
    have nd := fine.tree.nodup
    have p1000 := fine.len
    have tl := fine.tree.len
    have c := fine.tree.cutF he
    have il : i < ts.length := (List.getElem?_eq_some_iff.mp he).1
    have vl : vs.length = ts.length := by
      have := DtAll.len hA
      rwa [List.length_map] at this
    obtain ⟨w, hw⟩ : ∃ w, vs[i]? = some w := ⟨vs[i]'(by omega), List.getElem?_eq_getElem (by omega)⟩
    obtain ⟨e', p3, he', rfl, hp3⟩ := tie_at hA hw
    have ee : e' = e := Option.some.inj (he'.symm.trans he)
    subst ee
    refine ⟨_, rfl, t, _, rfl, SqT.of ht, rfl, _, _, rfl, _, _, rfl, rfl, ?_⟩
    refine ⟨_, rfl, _, rfl, b, _, (i : Nat), .ref p3, rfl, rfl, SqT.of hb, atI_nat hw, p3, _, 0, _, rfl, rfl, SqT.of hp3, atI_nat (j := 0) rfl, ?_⟩
    -- the tree without the tie
    refine ⟨_, rfl, _, rfl, _, rfl, (i : Nat), rfl, b, vs, rfl, SqT.of hb, cut_toN (by omega), fun q1 nq1 => ?_⟩
    rw [cut_to (by omega)]
    have S1 := same_new (o := .tup (vs.take i)) (Same.refl H) nq1
    have hq1 : (upd H q1 (.tup (vs.take i))) q1 = some (.tup (vs.take i)) := upd_same
    generalize upd H q1 (.tup (vs.take i)) = H1 at S1 hq1
    have ei : ((i : Nat) : Int) + 1 = ((i + 1 : Nat) : Int) := by omega
    refine ⟨_, rfl, _, rfl, _, _, rfl, rfl, ((i + 1 : Nat) : Int), congrArg V.int ei, b, vs, rfl, SqT.of (S1 _ _ hb), cut_fromN (by omega) (by omega), fun q2 nq2 => ?_⟩
    rw [cut_from (by omega)]
    have S2 := same_new (o := .tup (vs.drop (i + 1))) (Same.refl H1) nq2
    refine cat_any0 (xs := vs.take i) (ys := vs.drop (i + 1)) (S2 _ _ hq1) upd_same (by rw [List.length_take, List.length_drop]; exact sz_le (by omega)) fun q3 H3 S3 hq3 => ?_
    have S13 := S1.trans (S2.trans S3)
    refine ⟨(by show 2 ≤ sizeLine; decide), fun r nr => ?_⟩
    have S4 := same_new (o := .tup [.ref a, .ref q3]) S13 nr
    have tk4 : TK H3 (upd H3 r (.tup [.ref a, .ref q3])) := TK.new nr
    have due : Dt (upd H3 r (.tup [.ref a, .ref q3])) (.ref r) (treeD pl (restT ts i)) := by
      have hA4 := DtAll.keep (TK.of S4) hA
      refine .tup upd_same (.cons (names_dt ((ha.same S13).upd nr) fine.ne) (.cons (.tup (tk4.tup _ _ hq3) ?_) .nil))
      unfold restT
      rw [List.map_append, List.map_take, List.map_drop]
      exact DtAll.app (DtAll.cut i hA4).1 (DtAll.cut (i + 1) hA4).2
    generalize upd H3 r (.tup [.ref a, .ref q3]) = H4 at S4 due
    refine ⟨_, rfl, .ref r, pl, restT ts i, nearP pl ts e', amT (nearP pl ts e') (restT ts i), e'.1, rfl, due, c.comp1 fine, c.ma, fun H5 g bk ln fs prev S5 W => ?_⟩
    have S45 := S4.trans S5
    refine ⟨g, _, rfl, SqT.of W.pair, rfl, _, _, rfl, _, _, rfl, rfl, ?_⟩
    have wl := W.lens
    have wa := W.all
    -- near
    refine ⟨_, rfl, a, rfl, ⟨_, (ha.same S45).sq⟩, fun N nN => ?_⟩
    refine lc_tup (K := K) (a := a) (xs := (pl.map S).map V.str) (fun j H' => Same H5 H' ∧ H' N = some (.lst ((((pl.take j).filter fun x => decide (x ∈ nearP pl ts e')).map S).map V.str))) ⟨same_new (Same.refl _) nN, upd_same⟩ (fun j H' _ hP => (ha.same (S45.trans hP.1)).sq) (fun j x H' hj hP => ?_) (fun H6 hP => ?_)
    · obtain ⟨sm, hN⟩ := hP
      obtain ⟨l, el, lm, rfl, et⟩ := at_name hj
      refine ⟨rfl, _, rfl, _, rfl, ln, _, rfl, DGet.k (k := Sum.inr (S l)) (sm _ _ wl), _, rfl, ?_⟩
      rw [dkm_some, et, List.filter_append]
      have fl := List.length_filter_le (fun x => decide (x ∈ nearP pl ts e')) (pl.take j)
      rw [List.length_take] at fl
      by_cases cc : l ∈ nearP pl ts e'
      · rw [decide_eq_true ((wa l).mpr cc)]
        refine iteT ⟨_, rfl, _, hN, by rw [List.length_map, List.length_map]; exact sz_lt (by omega), same_put sm nN, ?_⟩
        rw [upd_same, List.filter_cons_of_pos (by rw [decide_eq_true cc]), List.map_append, List.map_append]
        rfl
      · rw [decide_eq_false fun z => cc ((wa l).mp z)]
        refine iteF ⟨sm, ?_⟩
        rw [List.filter_cons_of_neg (by rw [decide_eq_false cc]; simp)]
        simpa using hN
    · obtain ⟨S6, hN⟩ := hP
      rw [List.length_map, List.length_map, List.take_length, near_self] at hN
      have S56 := S45.trans S6
      -- off
      refine ⟨_, rfl, a, rfl, ⟨_, (ha.same S56).sq⟩, fun G nG => ?_⟩
      refine lc_tup (K := K) (a := a) (xs := (pl.map S).map V.str) (fun j H' => Same H6 H' ∧ H' G = some (.lst ((((pl.take j).filter fun x => !decide (x ∈ nearP pl ts e')).map S).map V.str))) ⟨same_new (Same.refl _) nG, upd_same⟩ (fun j H' _ hP => (ha.same (S56.trans hP.1)).sq) (fun j x H' hj hP => ?_) (fun H7 hP => ?_)
      · obtain ⟨sm, hG⟩ := hP
        obtain ⟨l, el, lm, rfl, et⟩ := at_name hj
        refine ⟨rfl, _, rfl, _, rfl, ln, _, rfl, DGet.k (k := Sum.inr (S l)) (sm _ _ (S6 _ _ wl)), _, rfl, ?_⟩
        rw [dkm_some, et, List.filter_append]
        have fl := List.length_filter_le (fun x => !decide (x ∈ nearP pl ts e')) (pl.take j)
        rw [List.length_take] at fl
        by_cases cc : l ∈ nearP pl ts e'
        · rw [decide_eq_true ((wa l).mpr cc)]
          refine iteF ⟨sm, ?_⟩
          rw [List.filter_cons_of_neg (by rw [decide_eq_true cc]; simp)]
          simpa using hG
        · rw [decide_eq_false fun z => cc ((wa l).mp z)]
          refine iteT ⟨_, rfl, _, hG, by rw [List.length_map, List.length_map]; exact sz_lt (by omega), same_put sm nG, ?_⟩
          rw [upd_same, List.filter_cons_of_pos (by rw [decide_eq_false cc]; rfl), List.map_append, List.map_append]
          rfl
      · obtain ⟨S7, hG⟩ := hP
        rw [List.length_map, List.length_map, List.take_length, off_self] at hG
        have S57 := S56.trans S7
        have l1 := List.length_filter_le (fun x => decide (dist ts e'.1 x < dist ts e'.2.1 x)) pl
        have l2 := List.length_filter_le (fun x => !decide (dist ts e'.1 x < dist ts e'.2.1 x)) pl
        refine ⟨_, rfl, _, rfl, N, D, ad, pl, nearP pl ts e', ts, rfl, S7 _ _ hN, ap.same S57, fun x hx => (List.mem_filter.mp hx).1, c.near.nodup, fun z => (by have := c.ma; rw [z] at this; cases this), Nat.le_trans l1 p1000, fun H8 r1 S8 nr1 hr1 => ?_⟩
        refine ⟨_, rfl, _, rfl, G, D, ad, pl, offP pl ts e', ts, rfl, S8 _ _ hG, ap.same (S57.trans S8), fun x hx => (List.mem_filter.mp hx).1, c.off.nodup, fun z => (by have := c.mb; rw [z] at this; cases this), Nat.le_trans l2 p1000, fun H9 r2 S9 nr2 hr2 => ?_⟩
        refine ⟨(by show 2 ≤ sizeLine; decide), fun o no => ?_⟩
        exact q _ o r1 r2 (same_new (S57.trans (S8.trans S9)) no) upd_same (same_new (o := .tup [.ref r1, .ref r2]) S9 no _ _ hr1) (same_new (o := .tup [.ref r1, .ref r2]) (Same.refl _) no _ _ hr2)
end
end Far

namespace Far
open PySem PySem.Spec PyProof.Rows L2
open C8 (pss_cut tCut)
open SX (S)
noncomputable def mxA (pl : List Nm) (ts : List Tie) (e : Tie) : Int := mxG ((nearP pl ts e).map (rP ts (nearP pl ts e)))
noncomputable def mxB (pl : List Nm) (ts : List Tie) (e : Tie) : Int := mxG ((offP pl ts e).map (rP ts (offP pl ts e)))
noncomputable def prtD (pl : List Nm) (ts : List Tie) (e : Tie) : PyData := .tuple [.int (mxA pl ts e), .int (mxB pl ts e)]
/-- the pairs of which just one is of the part -/
def rowB (ps : List Nm) (x : Nm) (ys : List Nm) : List (Nm × Nm) := (ys.filter fun y => decide (x ∈ ps) != decide (y ∈ ps)).map fun y => (x, y)
def btw (pl ps : List Nm) (n : Nat) : List (Nm × Nm) := (List.range n).flatMap fun i => rowB ps (pl.getD i []) (pl.drop (i + 1))
def pdN (z : Nm × Nm) : PyData := .tuple [strD z.1, strD z.2]
theorem btw_succ (pl ps : List Nm) (n : Nat) : btw pl ps (n + 1) = btw pl ps n ++ rowB ps (pl.getD n []) (pl.drop (n + 1)) := by
  unfold btw
  rw [List.range_succ, List.flatMap_append]
  simp
theorem rowB_len (ps : List Nm) (x : Nm) (ys : List Nm) : (rowB ps x ys).length ≤ ys.length := by
  unfold rowB
  rw [List.length_map]
  exact List.length_filter_le ..
theorem btw_len (pl ps : List Nm) : ∀ n, (btw pl ps n).length ≤ n * pl.length
  | 0 => by simp [btw]
  | n + 1 => by
    rw [btw_succ, List.length_append, Nat.succ_mul]
    have h1 := btw_len pl ps n
    have h2 := rowB_len ps (pl.getD n []) (pl.drop (n + 1))
    rw [List.length_drop] at h2
    omega
theorem rowB_snoc (ps : List Nm) (x y : Nm) (ys : List Nm) : rowB ps x (ys ++ [y]) = rowB ps x ys ++ (if (decide (x ∈ ps) != decide (y ∈ ps)) = true then [(x, y)] else []) := by
  unfold rowB
  rw [List.filter_append, List.map_append]
  by_cases c : (decide (x ∈ ps) != decide (y ∈ ps)) = true
  · rw [if_pos c, List.filter_cons_of_pos (p := fun y => decide (x ∈ ps) != decide (y ∈ ps)) c]
    rfl
  · rw [if_neg c, List.filter_cons_of_neg (p := fun y => decide (x ∈ ps) != decide (y ∈ ps)) c]
    rfl
theorem bl_ne (a b : Bool) : (!decide (V.bl a = V.bl b)) = (a != b) := by
  cases a <;> cases b <;> simp
abbrev s_parts_without : Stmt := topS 32
abbrev N_parts_without : List Str := ["tree", "apart", "told", "number", "near", "far"]
theorem sc_parts_without : FnScope N_parts_without ["tree"] (defScope s_parts_without) := ⟨rfl, rfl, rfl, by decide +kernel, rfl, by decide +kernel, by decide +kernel⟩
abbrev s_pairs_between : Stmt := topS 37
abbrev N_pairs_between : List Str := ["places", "part", "told", "number", "one", "other"]
theorem sc_pairs_between : FnScope N_pairs_between ["places", "part"] (defScope s_pairs_between) := ⟨rfl, rfl, rfl, by decide +kernel, rfl, by decide +kernel, by decide +kernel⟩
section
variable {P : Program} {w : World} {K : PySem.W.Frag} {mg : Str → Option Value} {base : Heap}
def spPartsW : Sp := fun vs H Q _ => ∃ (v : V) (pl : List Nm) (ts : List Tie), vs = [v] ∧ Dt H v (treeD pl ts) ∧ Fine pl ts ∧ ∀ (H' : Hp) (q : Addr) (ws : List V), Same H H' → H' q = some (.tup ws) → DtAll H' ws (ts.map (prtD pl ts)) → Q (.ref q) H'
theorem ok_parts_without {f : Addr} {fd : FuncData} (F : Fun K "parts_without" "parts_without" s_parts_without f fd) (T : TxtE mg) (C_lengths_apart : Cal P w K mg base 4 "_lengths_apart" spApart) (C_parts_without : Cal P w K mg base 3 "_parts_without" spParts) : FnOk P w K mg base CX0 5 f fd ["tree"] spPartsW := by
  refine F.ok sc_parts_without (fun vs H Q E h => ?_) (fun cdv A outer s H vs Q E hr h => ?_)
  · obtain ⟨v, pl, ts, rfl, _⟩ := h
    rfl
  · obtain ⟨v, pl, ts, rfl, hd, fine, q⟩ := h
    obtain ⟨t, a, b, vs, rfl, ht, ha, hb, hA⟩ := dt_tree hd
    refine ⟨_, (pss_cons (ps_set (i := 1) sc_parts_without.nd rfl (.inl rfl) (pe_c C_lengths_apart hr (by decide) rfl (pa_cons (pv 0) pa_nil)))
      (pss_cons (ps_set (i := 2) sc_parts_without.nd rfl (.inl rfl) (pe_lst pa_nil))
      (pss_cut (ps_for PassesOwn.never rfl (pi_range1 (by rfl) T.range (pa_cons (pe_callB call_len_seq (by rfl) T.len bt_len (pa_cons (pe_ix ix_tup (pv 0) pe_int (fun _ _ => rfl)) pa_nil)) pa_nil)) (pg_name (i := 3) sc_parts_without.nd rfl (.inl rfl))
        (pss_cons (ps_asg (pe_c C_parts_without hr (by decide) rfl (pa_cons (pv 0) (pa_cons (pv 3) (pa_cons (pv 1) pa_nil)))) (pg_tup rfl (pgs_cons (pg_name (i := 4) sc_parts_without.nd rfl (.inl rfl)) (pgs_cons (pg_name (i := 5) sc_parts_without.nd rfl (.inl rfl)) pgs_nil))))
        (pss_one (ps_expr (pe_bm PySem.F.plainAttrs_list PySem.F.slot_list_append PySem.F.type_list_append mt_append (pv 2) (pa_cons (pe_tup (pa_cons (pe_maxVals rfl (pv 4) (by rfl) T.max bt_max) (pa_cons (pe_maxVals rfl (pv 5) (by rfl) T.max bt_max) pa_nil))) pa_nil))))))
      (pss_one (ps_ret (pe_tupleOf (by rfl) T.tuple (pv 2))))))), ?_⟩
    have tl := fine.tree.len
    have p1000 := fine.len
    have vl : vs.length = ts.length := by
      have := DtAll.len hA
      rwa [List.length_map] at this
    refine ⟨_, rfl, .ref t, pl, ts, rfl, hd, fine, fun H1 D ad S1 nD ap => ?_⟩
    refine ⟨Nat.zero_le _, fun L nL => ?_⟩
    have S2 := same_new (o := .lst []) S1 nL
    have nL0 := S1.free nL
    refine ⟨fun σ' H' => ∃ (x3 x4 x5 : Option V) (ws : List V), σ' = [some (.ref t), some (.ref D), some (.ref L), x3, x4, x5] ∧ Same H H' ∧ H' L = some (.lst ws) ∧ DtAll H' ws (ts.map (prtD pl ts)), ?_, fun σ' H' hM => ?_⟩
    rotate_left
    · obtain ⟨x3, x4, x5, ws, rfl, SM, hL, hW⟩ := hM
      have wl := DtAll.len hW
      rw [List.length_map] at wl
      refine ⟨_, rfl, .inl ⟨L, _, rfl, SqL.of hL, fun g ng => ?_⟩⟩
      exact q _ g ws (same_new SM ng) upd_same (DtAll.keep (TK.new ng) hW)
    · have hL0 : (upd H1 L (.lst [])) L = some (.lst []) := upd_same
      have ap2 := ap.same (same_new (o := .lst []) (Same.refl H1) nL)
      generalize upd H1 L (.lst []) = H2 at S2 hL0 ap2
      refine ⟨_, rfl, t, _, 1, .ref b, rfl, rfl, SqT.of (S2 _ _ ht), atI_nat (j := 1) rfl, b, _, rfl, .inr (SqT.of (S2 _ _ hb)), _, rfl, by omega, by omega, ?_⟩
      refine for_range (lo := 0) (n := (((vs.length : Nat) : Int)).toNat) (fun i σ' H' => ∃ (x3 x4 x5 : Option V) (ws : List V), σ' = [some (.ref t), some (.ref D), some (.ref L), x3, x4, x5] ∧ Same H H' ∧ ApAt H' D ad pl ts pl ∧ H' L = some (.lst ws) ∧ DtAll H' ws ((ts.take i).map (prtD pl ts))) ⟨none, none, none, [], rfl, S2, ap2, hL0, .nil⟩ (fun i σ' H' hi hP => ?_) (fun σ' H' hP => ?_)
      · obtain ⟨x3, x4, x5, ws, rfl, SM, ap3, hL, hW⟩ := hP
        have hi : i < vs.length := by simpa using hi
        obtain ⟨e, he⟩ : ∃ e, ts[i]? = some e := ⟨ts[i]'(by omega), List.getElem?_eq_getElem (by omega)⟩
        have et : ts.take (i + 1) = ts.take i ++ [e] := by rw [List.take_add_one, he]; rfl
        have c := fine.tree.cutF he
        have ei : (0 : Int) + (i : Int) = ((i : Nat) : Int) := by omega
        refine ⟨_, rfl, _, rfl, _, rfl, .ref t, D, ad, pl, ts, i, e, by rw [ei]; rfl, Dt.keep (TK.of SM) hd, fine, he, ap3, fun H4 g r1 r2 S4 hg h1 h2 => ?_⟩
        have S5 := SM.trans S4
        have hL4 := S4 _ _ hL
        have wl := DtAll.len hW
        rw [List.length_map, List.length_take] at wl
        refine ⟨g, _, rfl, SqT.of hg, rfl, _, _, rfl, _, _, rfl, rfl, ?_⟩
        refine ⟨_, rfl, .inl ⟨rfl, _, SqL.of hL4⟩, _, rfl, r1, _, _, rfl, h1, dkm_vals _ _, by rw [List.length_map]; exact List.length_pos_of_mem c.ma, fun m hm hle => ?_⟩
        rw [mxG_is hm hle]
        refine ⟨_, rfl, r2, _, _, rfl, h2, dkm_vals _ _, by rw [List.length_map]; exact List.length_pos_of_mem c.mb, fun m' hm' hle' => ?_⟩
        rw [mxG_is hm' hle']
        refine ⟨(by show 2 ≤ sizeLine; decide), fun o no => ?_⟩
        have S6 := same_new (o := .tup [.int (mxA pl ts e), .int (mxB pl ts e)]) S5 no
        have S46 := same_new (o := .tup [.int (mxA pl ts e), .int (mxB pl ts e)]) S4 no
        have hL6 := same_new (o := .tup [.int (mxA pl ts e), .int (mxB pl ts e)]) (Same.refl H4) no _ _ hL4
        have ho : (upd H4 o (.tup [.int (mxA pl ts e), .int (mxB pl ts e)])) o = some (.tup [.int (mxA pl ts e), .int (mxB pl ts e)]) := upd_same
        have ap6 := ap3.same S46
        have hW6 := DtAll.keep (TK.of S46) hW
        show ∃ _, _
        have e0 : (.tup [.int (mxG (List.map (rP ts (nearP pl ts e)) (nearP pl ts e))), .int (mxG (List.map (rP ts (offP pl ts e)) (offP pl ts e)))] : HO) = .tup [.int (mxA pl ts e), .int (mxB pl ts e)] := rfl
        rw [e0]
        generalize upd H4 o (.tup [.int (mxA pl ts e), .int (mxB pl ts e)]) = H6 at S6 hL6 ho ap6 hW6
        refine ⟨L, ws, _, rfl, rfl, hL6, sz_lt (by omega), ?_⟩
        have tk := TK.mut (o := .lst (ws ++ [.ref o])) hL6
        have LD : D ≠ L := ne_of ap6.out hL6 (by intro z; cases z)
        refine ⟨_, _, _, ws ++ [.ref o], rfl, same_put S6 nL0, ⟨by rw [upd_ne LD]; exact ap6.out, fun x hx => by rw [upd_ne (ne_of (ap6.inn x hx) hL6 (by intro z; cases z))]; exact ap6.inn x hx, ap6.ne⟩, upd_same, ?_⟩
        rw [et, List.map_append]
        exact DtAll.app (DtAll.keep tk hW6) (.cons (.tup (tk.tup _ _ ho) (.cons (.int _) (.cons (.int _) .nil))) .nil)
      · obtain ⟨x3, x4, x5, ws, rfl, SM, _, hL, hW⟩ := hP
        have en : (((vs.length : Nat) : Int)).toNat = ts.length := by omega
        rw [en, List.take_length] at hW
        exact ⟨x3, x4, x5, ws, rfl, SM, hL, hW⟩
def spBetween : Sp := fun vs H Q _ => ∃ (a r : Addr) (pl ps : List Nm) (g : Nm → V), vs = [.ref a, .ref r] ∧ TupAt H a ((pl.map S).map V.str) ∧ H r = some (.dK (dkm ps g)) ∧ pl.length ≤ 1000 ∧
  ∀ (H' : Hp) (q : Addr) (ws : List V), Same H H' → H q = none → H' q = some (.lst ws) → DtAll H' ws ((btw pl ps pl.length).map pdN) → Q (.ref q) H'
theorem ok_between {f : Addr} {fd : FuncData} (F : Fun K "_pairs_between" "_pairs_between" s_pairs_between f fd) (T : TxtE mg) : FnOk P w K mg base CX0 1 f fd ["places", "part"] spBetween := by
  refine F.ok sc_pairs_between (fun vs H Q E h => ?_) (fun cdv A outer s H vs Q E hr h => ?_)
  · obtain ⟨a, r, pl, ps, g, rfl, _⟩ := h
    rfl
  · obtain ⟨a, r, pl, ps, g, rfl, ha, hr', p1000, q⟩ := h
    refine ⟨_, (pss_cons (ps_set (i := 2) sc_pairs_between.nd rfl (.inl rfl) (pe_lst pa_nil))
      (pss_cut (ps_for PassesOwn.never rfl (pi_enumT (by rfl) T.enumerate (pa_cons (pv 0) pa_nil)) (pg_tup rfl (pgs_cons (pg_name (i := 3) sc_pairs_between.nd rfl (.inl rfl)) (pgs_cons (pg_name (i := 4) sc_pairs_between.nd rfl (.inl rfl)) pgs_nil)))
        (pss_one (ps_for PassesOwn.never rfl (pi_tup (pe_slice sl_tup (pv 0) (po_some (pe_op op_add (pv 3) pe_int)) po_none)) (pg_name (i := 5) sc_pairs_between.nd rfl (.inl rfl))
          (pss_one (ps_if (pt_cmpR op_ne (pe_cmp (pc_din (hu_of hr) (pv 4) (pv 1)) rfl) (pe_cmp (pc_din (hu_of hr) (pv 5) (pv 1)) rfl) (nomark _))
            (pss_one (ps_expr (pe_bm PySem.F.plainAttrs_list PySem.F.slot_list_append PySem.F.type_list_append mt_append (pv 2) (pa_cons (pe_tup (pa_cons (pv 4) (pa_cons (pv 5) pa_nil))) pa_nil))))
            pss_nil)))))
      (pss_one (ps_ret (pv 2))))), ?_⟩
    have sqn : ((pl.map S).map V.str).length = pl.length := by rw [List.length_map, List.length_map]
    refine ⟨Nat.zero_le _, fun L nL => ?_⟩
    have S1 := same_new (o := .lst []) (Same.refl H) nL
    have hL0 : (upd H L (.lst [])) L = some (.lst []) := upd_same
    refine ⟨fun σ' H' => ∃ (x3 x4 x5 : Option V) (ws : List V), σ' = [some (.ref a), some (.ref r), some (.ref L), x3, x4, x5] ∧ Same H H' ∧ H' L = some (.lst ws) ∧ DtAll H' ws ((btw pl ps pl.length).map pdN), ?_, fun σ' H' hM => ?_⟩
    rotate_left
    · obtain ⟨x3, x4, x5, ws, rfl, SM, hL, hW⟩ := hM
      exact ⟨_, rfl, q H' L ws SM nL hL hW⟩
    · generalize upd H L (.lst []) = H1 at S1 hL0
      refine ⟨_, rfl, a, _, rfl, (ha.same S1).sq, ?_⟩
      refine for_enumT (K := K) (a := a) (xs := (pl.map S).map V.str) (fun i σ' H' => ∃ (x3 x4 x5 : Option V) (ws : List V), σ' = [some (.ref a), some (.ref r), some (.ref L), x3, x4, x5] ∧ Same H H' ∧ H' L = some (.lst ws) ∧ DtAll H' ws ((btw pl ps i).map pdN)) ⟨none, none, none, [], rfl, S1, hL0, .nil⟩ (fun i σ' H' hP => ?_) (fun i v σ' H' u hi hP nu => ?_) (fun σ' H' hP => ?_)
      · obtain ⟨_, _, _, ws, rfl, SM, _⟩ := hP
        exact (ha.same SM).sq
      · obtain ⟨x3, x4, x5, ws, rfl, SM, hL, hW⟩ := hP
        obtain ⟨x, ex, mx, rfl, et⟩ := at_name hi
        have ip : i < pl.length := (List.getElem?_eq_some_iff.mp ex).1
        have S3 := same_new (o := .tup [.int (i : Nat), .str (S x)]) SM nu
        have S3' := same_new (o := .tup [.int (i : Nat), .str (S x)]) (Same.refl H') nu
        have hu3 : (upd H' u (.tup [.int (i : Nat), .str (S x)])) u = some (.tup [.int (i : Nat), .str (S x)]) := upd_same
        have hL3 := S3' _ _ hL
        have hW3 := DtAll.keep (TK.of S3') hW
        generalize upd H' u (.tup [.int (i : Nat), .str (S x)]) = H3 at S3 hL3 hW3 hu3
        refine ⟨u, _, rfl, SqT.of hu3, rfl, _, _, rfl, _, _, rfl, rfl, ?_⟩
        have ei : ((i : Nat) : Int) + 1 = ((i + 1 : Nat) : Int) := by omega
        refine ⟨_, rfl, _, rfl, _, _, rfl, rfl, ((i + 1 : Nat) : Int), congrArg V.int ei, a, _, rfl, (ha.same S3).sq, cut_fromN (by omega) (by rw [sqn]; omega), fun p1 np1 => ?_⟩
        rw [cut_from (by rw [sqn]; omega), ← List.map_drop, ← List.map_drop]
        have S4 := same_new (o := .tup (((pl.drop (i + 1)).map S).map V.str)) S3 np1
        have S4' := same_new (o := .tup (((pl.drop (i + 1)).map S).map V.str)) (Same.refl H3) np1
        have hp1 : (upd H3 p1 (.tup (((pl.drop (i + 1)).map S).map V.str))) p1 = some (.tup (((pl.drop (i + 1)).map S).map V.str)) := upd_same
        have hL4 := S4' _ _ hL3
        have hW4 := DtAll.keep (TK.of S4') hW3
        generalize upd H3 p1 (.tup (((pl.drop (i + 1)).map S).map V.str)) = H4 at S4 hp1 hL4 hW4
        refine ⟨p1, rfl, ⟨_, SqT.of hp1⟩, for_tup (K := K) (a := p1) (xs := ((pl.drop (i + 1)).map S).map V.str) (fun j σ' H' => ∃ (x5 : Option V) (ws : List V), σ' = [some (.ref a), some (.ref r), some (.ref L), some (.int ((i : Nat) : Int)), some (.str (S x)), x5] ∧ Same H H' ∧ H' p1 = some (.tup (((pl.drop (i + 1)).map S).map V.str)) ∧ H' L = some (.lst ws) ∧ DtAll H' ws ((btw pl ps i ++ rowB ps x ((pl.drop (i + 1)).take j)).map pdN))
          ⟨x5, ws, rfl, S4, hp1, hL4, by simpa [rowB] using hW4⟩ (fun j σ' H' _ hP => ?_) (fun j v σ' H' hj hP => ?_) (fun σ' H' hP => ?_)⟩
        · obtain ⟨_, _, _, _, h, _⟩ := hP
          exact SqT.of h
        · clear hW hW3 hW4 hL hL3 hL4
          clear ws
          obtain ⟨x5, ws, rfl, S5, hp5, hL5, hW5⟩ := hP
          obtain ⟨y, ey, my, rfl, ety⟩ := at_name hj
          have r5 := S5 _ _ hr'
          refine ⟨_, rfl, _, rfl, r, _, rfl, DGet.k (k := Sum.inr (S x)) r5, _, rfl, _, rfl, r, _, rfl, DGet.k (k := Sum.inr (S y)) r5, rfl, _, rfl, ?_⟩
          rw [dkm_some, dkm_some, bl_ne, ety, rowB_snoc]
          have wl := DtAll.len hW5
          have b1 := btw_len pl ps i
          have b2 : i * pl.length ≤ 1000 * 1000 := Nat.mul_le_mul (by omega) p1000
          have b3 := rowB_len ps x ((pl.drop (i + 1)).take j)
          rw [List.length_map, List.length_append] at wl
          rw [List.length_take, List.length_drop] at b3
          cases c : (decide (x ∈ ps) != decide (y ∈ ps)) with
          | false =>
            refine iteF ⟨_, ws, rfl, S5, hp5, hL5, ?_⟩
            rw [if_neg (by decide), List.append_nil]
            exact hW5
          | true =>
            refine iteT ⟨_, rfl, .inl ⟨rfl, _, SqL.of hL5⟩, _, rfl, _, rfl, (by show 2 ≤ sizeLine; decide), fun o no => ?_⟩
            have S6' := same_new (o := .tup [.str (S x), .str (S y)]) (Same.refl H') no
            have S6 := S5.trans S6'
            have hL6 := S6' _ _ hL5
            have hp6 := S6' _ _ hp5
            have hW6 := DtAll.keep (TK.of S6') hW5
            have ho : (upd H' o (.tup [.str (S x), .str (S y)])) o = some (.tup [.str (S x), .str (S y)]) := upd_same
            generalize upd H' o (.tup [.str (S x), .str (S y)]) = H6 at S6 hL6 hp6 hW6 ho
            have tk := TK.mut (o := .lst (ws ++ [.ref o])) hL6
            refine ⟨L, ws, _, rfl, rfl, hL6, szM (by omega), ?_⟩
            refine ⟨_, ws ++ [.ref o], rfl, same_put S6 nL, tk.tup _ _ hp6, upd_same, ?_⟩
            rw [if_pos rfl, ← List.append_assoc, List.map_append]
            exact DtAll.app (DtAll.keep tk hW6) (.cons (.tup (tk.tup _ _ ho) (.cons (.str _) (.cons (.str _) .nil))) .nil)
        · obtain ⟨x5, ws, rfl, S5, hp5, hL5, hW5⟩ := hP
          rw [List.length_map, List.length_map, List.take_length] at hW5
          refine ⟨_, _, _, ws, rfl, S5, hL5, ?_⟩
          rw [btw_succ, List.getD_eq_getElem?_getD, ex]
          exact hW5
      · obtain ⟨x3, x4, x5, ws, rfl, SM, hL, hW⟩ := hP
        rw [sqn] at hW
        exact ⟨x3, x4, x5, ws, rfl, SM, hL, hW⟩
end
end Far

namespace Far
open PySem PySem.Spec PyProof.Rows L2 LamX
open C8 (pss_cut tCut)
open SX (S)
theorem TupAt.tk {H H' : Hp} {a : Addr} {xs : List V} (h : TupAt H a xs) (s : TK H H') : TupAt H' a xs := h.elim (fun h => .inl (s.tup _ _ h)) fun ⟨o, d, h⟩ => .inr ⟨o, d, s.frz _ _ _ h⟩
abbrev Qua := Int × Int × Nm × Nm
def quaD (z : Qua) : PyData := .tuple [.int z.1, .int z.2.1, strD z.2.2.1, strD z.2.2.2]
/-- the changes of one tie, and of the first so many -/
noncomputable def chs (pl : List Nm) (ts : List Tie) (i : Nat) (e : Tie) : List Qua := (btw pl (nearP pl ts e) pl.length).map fun z => (overE pl ts e z.1 z.2, (i : Int), z.1, z.2)
noncomputable def allC (pl : List Nm) (ts : List Tie) (n : Nat) : List Qua := (List.range n).flatMap fun i => chs pl ts i (ts.getD i ([], [], 0))
theorem allC_succ (pl : List Nm) (ts : List Tie) (n : Nat) : allC pl ts (n + 1) = allC pl ts n ++ chs pl ts n (ts.getD n ([], [], 0)) := by
  unfold allC
  rw [List.range_succ, List.flatMap_append]
  simp
theorem chs_len (pl : List Nm) (ts : List Tie) (i : Nat) (e : Tie) : (chs pl ts i e).length ≤ pl.length * pl.length := by
  unfold chs
  rw [List.length_map]
  exact btw_len _ _ _
theorem allC_len (pl : List Nm) (ts : List Tie) : ∀ n, (allC pl ts n).length ≤ n * (pl.length * pl.length)
  | 0 => by simp [allC]
  | n + 1 => by
    rw [allC_succ, List.length_append, Nat.succ_mul]
    exact Nat.add_le_add (allC_len pl ts n) (chs_len ..)
theorem btw_mem {pl ps : List Nm} {z : Nm × Nm} : ∀ {n : Nat}, n ≤ pl.length → z ∈ btw pl ps n → z.1 ∈ pl ∧ z.2 ∈ pl
  | 0, _, h => by simp [btw] at h
  | n + 1, hn, h => by
    rw [btw_succ] at h
    rcases List.mem_append.mp h with q | q
    · exact btw_mem (by omega) q
    · unfold rowB at q
      obtain ⟨y, hy, rfl⟩ := List.mem_map.mp q
      have e : pl[n]? = some (pl[n]'(by omega)) := List.getElem?_eq_getElem (by omega)
      refine ⟨?_, List.mem_of_mem_drop (List.mem_filter.mp hy).1⟩
      rw [List.getD_eq_getElem?_getD, e]
      exact List.getElem_mem _
abbrev s_changes_of : Stmt := topS 36
abbrev N_changes_of : List Str := ["tree", "number", "apart", "places", "ties", "near", "far", "reaches", "inside", "told", "one", "other", "over"]
theorem sc_changes_of : FnScope N_changes_of ["tree", "number", "apart"] (defScope s_changes_of) := ⟨rfl, rfl, rfl, by decide +kernel, rfl, by decide +kernel, by decide +kernel⟩
section
variable {P : Program} {w : World} {K : PySem.W.Frag} {mg : Str → Option Value} {base : Heap}
def spChanges : Sp := fun vs H Q _ => ∃ (v : V) (D : Addr) (ad : Nm → Addr) (pl : List Nm) (ts : List Tie) (i : Nat) (e : Tie), vs = [v, .int i, .ref D] ∧ Dt H v (treeD pl ts) ∧ Fine pl ts ∧ ts[i]? = some e ∧ ApAt H D ad pl ts pl ∧
  ∀ (H' : Hp) (q : Addr) (ws : List V), Same H H' → H' q = some (.lst ws) → DtAll H' ws ((chs pl ts i e).map quaD) → Q (.ref q) H'
theorem ok_changes {f : Addr} {fd : FuncData} (F : Fun K "_changes_of" "_changes_of" s_changes_of f fd) (T : TxtE mg) (C_parts_without : Cal P w K mg base 3 "_parts_without" spParts) (C_pairs_between : Cal P w K mg base 1 "_pairs_between" spBetween) : FnOk P w K mg base CX0 4 f fd ["tree", "number", "apart"] spChanges := by
  refine F.ok sc_changes_of (fun vs H Q E h => ?_) (fun cdv A outer s H vs Q E hr h => ?_)
  · obtain ⟨v, D, ad, pl, ts, i, e, rfl, _⟩ := h
    rfl
  · obtain ⟨v, D, ad, pl, ts, i, e, rfl, hd, fine, he, ap, q⟩ := h
    obtain ⟨t, a, b, vs, rfl, ht, ha, hb, hA⟩ := dt_tree hd
    refine ⟨_, (pss_cons (ps_asg (pv 0) (pg_tup rfl (pgs_cons (pg_name (i := 3) sc_changes_of.nd rfl (.inl rfl)) (pgs_cons (pg_name (i := 4) sc_changes_of.nd rfl (.inl rfl)) pgs_nil))))
      (pss_cons (ps_asg (pe_c C_parts_without hr (by decide) rfl (pa_cons (pv 0) (pa_cons (pv 1) (pa_cons (pv 2) pa_nil)))) (pg_tup rfl (pgs_cons (pg_name (i := 5) sc_changes_of.nd rfl (.inl rfl)) (pgs_cons (pg_name (i := 6) sc_changes_of.nd rfl (.inl rfl)) pgs_nil))))
      (pss_cons (ps_set (i := 7) sc_changes_of.nd rfl (.inl rfl) (pe_dmerge (pv 5) (pv 6)))
      (pss_cons (ps_set (i := 8) sc_changes_of.nd rfl (.inl rfl) (pe_maxVals rfl (pv 7) (by rfl) T.max bt_max))
      (pss_cons (ps_set (i := 9) sc_changes_of.nd rfl (.inl rfl) (pe_lst pa_nil))
      (pss_cut (ps_for PassesOwn.never rfl (pi_list (pe_c C_pairs_between hr (by decide) rfl (pa_cons (pv 3) (pa_cons (pv 5) pa_nil)))) (pg_tup rfl (pgs_cons (pg_name (i := 10) sc_changes_of.nd rfl (.inl rfl)) (pgs_cons (pg_name (i := 11) sc_changes_of.nd rfl (.inl rfl)) pgs_nil)))
        (pss_cons (ps_set (i := 12) sc_changes_of.nd rfl (.inl rfl) (pe_op op_add (pe_op op_add (pe_dget (hu_of hr) (pv 7) (pv 10) (fun _ _ => rfl)) (pe_ix ix_tup (pe_ix ix_tup (pv 4) (pv 1) (fun _ _ => rfl)) pe_int (fun _ _ => rfl))) (pe_dget (hu_of hr) (pv 7) (pv 11) (fun _ _ => rfl))))
        (pss_one (ps_expr (pe_bm PySem.F.plainAttrs_list PySem.F.slot_list_append PySem.F.type_list_append mt_append (pv 9) (pa_cons (pe_tup (pa_cons (pe_callB (call_max2 rfl) (by rfl) T.max bt_max (pa_cons (pv 8) (pa_cons (pv 12) pa_nil))) (pa_cons (pv 1) (pa_cons (pv 10) (pa_cons (pv 11) pa_nil))))) pa_nil))))))
      (pss_one (ps_ret (pv 9))))))))), ?_⟩
    have nd := fine.tree.nodup
    have p1000 := fine.len
    have c := fine.tree.cutF he
    have il : i < ts.length := (List.getElem?_eq_some_iff.mp he).1
    have vl : vs.length = ts.length := by
      have := DtAll.len hA
      rwa [List.length_map] at this
    obtain ⟨w, hw⟩ : ∃ w, vs[i]? = some w := ⟨vs[i]'(by omega), List.getElem?_eq_getElem (by omega)⟩
    obtain ⟨e', p3, he', rfl, hp3⟩ := tie_at hA hw
    have ee : e' = e := Option.some.inj (he'.symm.trans he)
    subst ee
    refine ⟨_, rfl, t, _, rfl, SqT.of ht, rfl, _, _, rfl, _, _, rfl, rfl, ?_⟩
    refine ⟨_, rfl, _, rfl, _, rfl, .ref t, D, ad, pl, ts, i, e', rfl, hd, fine, he, ap, fun H1 g r1 r2 S1 hg h1 h2 => ?_⟩
    refine ⟨g, _, rfl, SqT.of hg, rfl, _, _, rfl, _, _, rfl, rfl, ?_⟩
    -- both dicts in one
    have c1 : (dkm (nearP pl ts e') fun x => V.int (rP ts (nearP pl ts e') x)) = dkm (nearP pl ts e') fun x => .int (rE pl ts e' x) := dkm_cong fun x hx => by rw [c.rE1 hx, c.rch1 hx]
    have c2 : (dkm (offP pl ts e') fun x => V.int (rP ts (offP pl ts e') x)) = dkm (offP pl ts e') fun x => .int (rE pl ts e' x) := dkm_cong fun x hx => by rw [c.rE2 hx, c.rch2 hx]
    rw [c1] at h1
    rw [c2] at h2
    have ndA : (nearP pl ts e' ++ offP pl ts e').Nodup := c.ps.nodup_iff.mpr nd
    have lA : (nearP pl ts e' ++ offP pl ts e').length = pl.length := c.ps.length_eq
    rw [List.length_append] at lA
    refine fun p np => ⟨_, rfl, r1, _, rfl, upd_same, by rw [upd_ne (ne_of_none h1 np)]; exact h1, (ne_of_none h1 np).symm, by rw [dkm_len]; omega, ?_⟩
    rw [upd_upd, merge_nil c.near.nodup]
    refine ⟨_, rfl, r2, _, rfl, upd_same, by rw [upd_ne (ne_of_none h2 np)]; exact h2, (ne_of_none h2 np).symm, by rw [dkm_len]; omega, ?_⟩
    rw [upd_upd, merge_dkm ndA]
    have S2 := same_new (o := .dK (dkm (nearP pl ts e' ++ offP pl ts e') fun x => .int (rE pl ts e' x))) (Same.refl H1) np
    have hp := show (upd H1 p (.dK (dkm (nearP pl ts e' ++ offP pl ts e') fun x => .int (rE pl ts e' x)))) p = some (.dK (dkm (nearP pl ts e' ++ offP pl ts e') fun x => .int (rE pl ts e' x))) from upd_same
    generalize upd H1 p (.dK (dkm (nearP pl ts e' ++ offP pl ts e') fun x => .int (rE pl ts e' x))) = H2 at S2 hp
    have S12 := S1.trans S2
    refine ⟨_, rfl, p, _, _, rfl, hp, dkm_vals _ _, by rw [List.length_map]; exact List.length_pos_of_mem (List.mem_append_left _ c.ma), fun m hm hle => ?_⟩
    rw [mxG_is hm hle]
    clear hm hle m
    have em : mxG (List.map (rE pl ts e') (nearP pl ts e' ++ offP pl ts e')) = insE pl ts e' := rfl
    rw [em]
    refine ⟨Nat.zero_le _, fun L nL => ?_⟩
    have S3 := same_new (o := .lst []) S12 nL
    have nL0 := S12.free nL
    have hL0 : (upd H2 L (.lst [])) L = some (.lst []) := upd_same
    have hp3' := same_new (o := .lst []) (Same.refl H2) nL _ _ hp
    have h13 := (S2.trans (same_new (o := .lst []) (Same.refl H2) nL)) _ _ h1
    generalize upd H2 L (.lst []) = H3 at S3 hL0 hp3' h13
    refine ⟨fun σ' H' => ∃ (x10 x11 x12 : Option V) (ws : List V), σ' = [some (.ref t), some (.int i), some (.ref D), some (.ref a), some (.ref b), some (.ref r1), some (.ref r2), some (.ref p), some (.int (insE pl ts e')), some (.ref L), x10, x11, x12] ∧ Same H H' ∧ H' L = some (.lst ws) ∧ DtAll H' ws ((chs pl ts i e').map quaD), ?_, fun σ' H' hM => ?_⟩
    rotate_left
    · obtain ⟨x10, x11, x12, ws, rfl, SM, hL, hW⟩ := hM
      exact ⟨_, rfl, q H' L ws SM hL hW⟩
    · refine ⟨_, rfl, _, rfl, a, r1, pl, nearP pl ts e', _, rfl, ha.same S3, h13, p1000, fun H4 k wk S4 nk hk hK => ?_⟩
      have S34 := S3.trans S4
      have kl := DtAll.len hK
      rw [List.length_map] at kl
      refine ⟨k, rfl, ⟨_, SqL.of hk⟩, for_list (K := K) (a := k) (xs := wk) (fun j σ' H' => ∃ (x10 x11 x12 : Option V) (ws : List V), σ' = [some (.ref t), some (.int i), some (.ref D), some (.ref a), some (.ref b), some (.ref r1), some (.ref r2), some (.ref p), some (.int (insE pl ts e')), some (.ref L), x10, x11, x12] ∧ Same H H' ∧ H' k = some (.lst wk) ∧ TK H4 H' ∧ H' p = some (.dK (dkm (nearP pl ts e' ++ offP pl ts e') fun x => .int (rE pl ts e' x))) ∧ H' L = some (.lst ws) ∧ DtAll H' ws (((chs pl ts i e').take j).map quaD))
        ⟨none, none, none, [], rfl, S34, hk, TK.refl _, S4 _ _ hp3', S4 _ _ hL0, .nil⟩ (fun j σ' H' _ hP => ?_) (fun j v σ' H' hj hP => ?_) (fun σ' H' hP => ?_)⟩
      · obtain ⟨_, _, _, _, _, _, h, _⟩ := hP
        exact SqL.of h
      · obtain ⟨x10, x11, x12, ws, rfl, S5, hk5, tk5, hp5, hL5, hW5⟩ := hP
        obtain ⟨d, hd', hv⟩ := DtAll.get hK hj
        rw [List.getElem?_map] at hd'
        cases ez : (btw pl (nearP pl ts e') pl.length)[j]? with
        | none => rw [ez] at hd'; cases hd'
        | some z =>
          obtain ⟨x, y⟩ := z
          rw [ez] at hd'
          have ed : d = pdN (x, y) := (Option.some.inj hd').symm
          subst ed
          obtain ⟨o, xs, rfl, ho, hxs⟩ := dt_any hv
          have exs : xs = [.str (S x), .str (S y)] := by
            cases hxs with
            | cons a1 b1 =>
              cases b1 with
              | cons a2 b2 =>
                cases b2
                cases a1
                cases a2
                rfl
          subst exs
          obtain ⟨mx, my⟩ := btw_mem (Nat.le_refl _) (List.mem_of_getElem? ez)
          have mx' := c.ps.mem_iff.mpr mx
          have my' := c.ps.mem_iff.mpr my
          have jl := (List.getElem?_eq_some_iff.mp ez).1
          have ech : (chs pl ts i e')[j]? = some (overE pl ts e' x y, (i : Int), x, y) := by
            unfold chs
            rw [List.getElem?_map, ez]
            rfl
          have et : (chs pl ts i e').take (j + 1) = (chs pl ts i e').take j ++ [(overE pl ts e' x y, (i : Int), x, y)] := by rw [List.take_add_one, ech]; rfl
          have g1 : DGet H' p (.str (S x)) (some (.int (rE pl ts e' x))) := by
            rw [← dkm_get (f := fun l => V.int (rE pl ts e' l)) mx']
            exact DGet.k (k := Sum.inr (S x)) hp5
          have g2 : DGet H' p (.str (S y)) (some (.int (rE pl ts e' y))) := by
            rw [← dkm_get (f := fun l => V.int (rE pl ts e' l)) my']
            exact DGet.k (k := Sum.inr (S y)) hp5
          refine ⟨o, _, rfl, (ho.tk tk5).sq, rfl, _, _, rfl, _, _, rfl, rfl, ?_⟩
          refine ⟨_, rfl, _, rfl, p, _, rfl, g1, _, rfl, _, rfl, b, _, (i : Nat), .ref p3, rfl, rfl, SqT.of (S5 _ _ hb), atI_nat hw, p3, _, 2, _, rfl, rfl, SqT.of (S5 _ _ hp3), atI_nat (j := 2) rfl, _, _, rfl, rfl, _, rfl, _, rfl, p, _, rfl, g2, _, _, rfl, rfl, ?_⟩
          refine ⟨_, rfl, .inl ⟨rfl, _, SqL.of hL5⟩, _, rfl, _, rfl, _, _, rfl, _, rfl, _, rfl, _, rfl, (by show 4 ≤ sizeLine; decide), fun u nu => ?_⟩
          have U1 : Same H' (upd H' u (.tup [.int (overE pl ts e' x y), .int (i : Int), .str (S x), .str (S y)])) := same_new (Same.refl H') nu
          have U2 : (upd H' u (.tup [.int (overE pl ts e' x y), .int (i : Int), .str (S x), .str (S y)])) u = some (.tup [.int (overE pl ts e' x y), .int (i : Int), .str (S x), .str (S y)]) := upd_same
          have wl := DtAll.len hW5
          rw [List.length_map, List.length_take] at wl
          have b1 := btw_len pl (nearP pl ts e') pl.length
          have b2 : pl.length * pl.length ≤ 1000 * 1000 := Nat.mul_le_mul p1000 p1000
          have tkL := TK.mut (o := .lst (ws ++ [.ref u])) (U1 _ _ hL5)
          refine ⟨L, ws, _, rfl, rfl, U1 _ _ hL5, szM (by omega), ?_⟩
          have pL : p ≠ L := ne_of (U1 _ _ hp5) (U1 _ _ hL5) (by intro z; cases z)
          have kL : k ≠ L := (ne_of_none hL0 nk).symm
          refine ⟨_, _, _, ws ++ [.ref u], rfl, same_put (S5.trans U1) nL0, by rw [upd_ne kL]; exact U1 _ _ hk5, tk5.trans ((TK.of U1).trans tkL), by rw [upd_ne pL]; exact U1 _ _ hp5, upd_same, ?_⟩
          rw [et, List.map_append]
          exact DtAll.app (DtAll.keep ((TK.of U1).trans tkL) hW5) (.cons (.tup (tkL.tup _ _ U2) (.cons (.int _) (.cons (.int _) (.cons (.str _) (.cons (.str _) .nil))))) .nil)
      · obtain ⟨x10, x11, x12, ws, rfl, S5, _, _, _, hL5, hW5⟩ := hP
        have cl : (chs pl ts i e').length = (btw pl (nearP pl ts e') pl.length).length := List.length_map ..
        rw [kl, ← cl, List.take_length] at hW5
        exact ⟨x10, x11, x12, ws, rfl, S5, hL5, hW5⟩
end
end Far

namespace Far
open PySem PySem.Spec PyProof.Rows L2
open SX (S)
/-! ### the changes in order -/
theorem idx_get {pl : List Nm} (nd : pl.Nodup) {i : Nat} {x : Nm} (h : pl[i]? = some x) : pl.idxOf x = i := by
  obtain ⟨il, e⟩ := List.getElem?_eq_some_iff.mp h
  have m : x ∈ pl := List.mem_of_getElem? h
  have l := List.idxOf_lt_length_of_mem m
  have e2 : pl[pl.idxOf x] = x := List.getElem_idxOf l
  exact (List.getElem_inj nd).mp (e2.trans e.symm)
theorem idx_up {pl : List Nm} (nd : pl.Nodup) : pl.Pairwise fun a b => pl.idxOf a < pl.idxOf b := by
  refine List.pairwise_iff_getElem.mpr fun i j hi hj ij => ?_
  rw [idx_get nd (List.getElem?_eq_getElem hi), idx_get nd (List.getElem?_eq_getElem hj)]
  exact ij
def lexP (pl : List Nm) (a b : Nm × Nm) : Prop := pl.idxOf a.1 < pl.idxOf b.1 ∨ (pl.idxOf a.1 = pl.idxOf b.1 ∧ pl.idxOf a.2 < pl.idxOf b.2)
def lexQ (pl : List Nm) (a b : Qua) : Prop := a.2.1 < b.2.1 ∨ (a.2.1 = b.2.1 ∧ lexP pl a.2.2 b.2.2)
theorem rowB_fst {ps : List Nm} {x : Nm} {ys : List Nm} {z : Nm × Nm} (h : z ∈ rowB ps x ys) : z.1 = x ∧ z.2 ∈ ys ∧ (decide (x ∈ ps) != decide (z.2 ∈ ps)) = true := by
  unfold rowB at h
  obtain ⟨y, hy, rfl⟩ := List.mem_map.mp h
  exact ⟨rfl, (List.mem_filter.mp hy).1, (List.mem_filter.mp hy).2⟩
theorem btw_up {pl : List Nm} (nd : pl.Nodup) (ps : List Nm) : (btw pl ps pl.length).Pairwise (lexP pl) := by
  unfold btw
  refine List.pairwise_flatMap.mpr ⟨fun i hi => ?_, ?_⟩
  · unfold rowB
    refine List.pairwise_map.mpr ?_
    have up : (pl.drop (i + 1)).Pairwise fun a b => pl.idxOf a < pl.idxOf b := (idx_up nd).sublist (List.drop_sublist _ _)
    exact (up.sublist List.filter_sublist).imp fun h => .inr ⟨rfl, h⟩
  · refine (List.pairwise_lt_range (n := pl.length)).imp_of_mem fun {i j} hi hj ij x hx y hy => ?_
    have il := List.mem_range.mp hi
    have jl := List.mem_range.mp hj
    refine .inl ?_
    rw [(rowB_fst hx).1, (rowB_fst hy).1, List.getD_eq_getElem?_getD, List.getD_eq_getElem?_getD, List.getElem?_eq_getElem il, List.getElem?_eq_getElem jl]
    show pl.idxOf pl[i] < pl.idxOf pl[j]
    rw [idx_get nd (List.getElem?_eq_getElem il), idx_get nd (List.getElem?_eq_getElem jl)]
    exact ij
theorem allC_up {pl : List Nm} {ts : List Tie} (nd : pl.Nodup) (n : Nat) : (allC pl ts n).Pairwise (lexQ pl) := by
  unfold allC
  refine List.pairwise_flatMap.mpr ⟨fun i hi => ?_, ?_⟩
  · unfold chs
    refine List.pairwise_map.mpr ?_
    exact (btw_up nd _).imp fun h => .inr ⟨rfl, h⟩
  · refine (List.pairwise_lt_range (n := n)).imp fun {i j} ij x hx y hy => ?_
    unfold chs at hx hy
    obtain ⟨_, _, rfl⟩ := List.mem_map.mp hx
    obtain ⟨_, _, rfl⟩ := List.mem_map.mp hy
    exact .inl (Int.ofNat_lt.mpr ij)
/-- the first of those with the least -/
def FLq (l : List Qua) (x : Qua) : Prop := ∃ i : Nat, l[i]? = some x ∧ (∀ (j : Nat) (z : Qua), l[j]? = some z → x.1 ≤ z.1) ∧ ∀ (j : Nat) (z : Qua), j < i → l[j]? = some z → x.1 < z.1
theorem FLq.mem {l : List Qua} {x : Qua} (h : FLq l x) : x ∈ l := by
  obtain ⟨i, e, _⟩ := h
  exact List.mem_of_getElem? e
theorem FLq.le {l : List Qua} {x z : Qua} (h : FLq l x) (hz : z ∈ l) : x.1 ≤ z.1 := by
  obtain ⟨j, e⟩ := List.getElem?_of_mem hz
  obtain ⟨_, _, a, _⟩ := h
  exact a j z e
theorem FLq.lex {l : List Qua} {R : Qua → Qua → Prop} {x z : Qua} (h : FLq l x) (p : l.Pairwise R) (hz : z ∈ l) (e1 : z.1 = x.1) : z = x ∨ R x z := by
  obtain ⟨j, e⟩ := List.getElem?_of_mem hz
  obtain ⟨i, e0, _, b⟩ := h
  rcases Nat.lt_trichotomy i j with c | c | c
  · obtain ⟨il, ei⟩ := List.getElem?_eq_some_iff.mp e0
    obtain ⟨jl, ej⟩ := List.getElem?_eq_some_iff.mp e
    have := List.pairwise_iff_getElem.mp p i j il jl c
    rw [ei, ej] at this
    exact .inr this
  · rw [c, e] at e0
    exact .inl (Option.some.inj e0)
  · have := b j z c e
    omega
theorem btw_has {pl ps : List Nm} {i j : Nat} {x y : Nm} (hx : pl[i]? = some x) (hy : pl[j]? = some y) (ij : i < j) (c : (decide (x ∈ ps) != decide (y ∈ ps)) = true) : (x, y) ∈ btw pl ps pl.length := by
  have il := (List.getElem?_eq_some_iff.mp hx).1
  unfold btw
  refine List.mem_flatMap.mpr ⟨i, List.mem_range.mpr il, ?_⟩
  rw [List.getD_eq_getElem?_getD, hx]
  unfold rowB
  refine List.mem_map.mpr ⟨y, List.mem_filter.mpr ⟨?_, c⟩, rfl⟩
  have : (pl.drop (i + 1))[j - (i + 1)]? = some y := by
    rw [List.getElem?_drop, show i + 1 + (j - (i + 1)) = j by omega]
    exact hy
  exact List.mem_of_getElem? this
theorem btw_facts {pl ps : List Nm} (nd : pl.Nodup) {z : Nm × Nm} (h : z ∈ btw pl ps pl.length) : z.1 ∈ pl ∧ z.2 ∈ pl ∧ pl.idxOf z.1 < pl.idxOf z.2 ∧ (decide (z.1 ∈ ps) != decide (z.2 ∈ ps)) = true := by
  unfold btw at h
  obtain ⟨i, hi, hz⟩ := List.mem_flatMap.mp h
  have il := List.mem_range.mp hi
  obtain ⟨a, b, c⟩ := rowB_fst hz
  rw [List.getD_eq_getElem?_getD, List.getElem?_eq_getElem il] at a c
  have a : z.1 = pl[i] := a
  have c : (decide (pl[i] ∈ ps) != decide (z.2 ∈ ps)) = true := c
  obtain ⟨k, hk⟩ := List.getElem?_of_mem b
  rw [List.getElem?_drop] at hk
  refine ⟨by rw [a]; exact List.getElem_mem _, List.mem_of_mem_drop b, ?_, by rw [a]; exact c⟩
  rw [a, idx_get nd (List.getElem?_eq_getElem il), idx_get nd hk]
  omega
section
variable {pl : List Nm} {ts : List Tie}
theorem acr_of {e : Tie} {x y : Nm} (hx : x ∈ pl) (hy : y ∈ pl) (c : (decide (x ∈ nearP pl ts e) != decide (y ∈ nearP pl ts e)) = true) : acrE pl ts e x y := by
  have off : ∀ z ∈ pl, z ∉ nearP pl ts e → z ∈ offP pl ts e := fun z hz n => by
    refine List.mem_filter.mpr ⟨hz, ?_⟩
    by_cases d : dist ts e.1 z < dist ts e.2.1 z
    · exact absurd (List.mem_filter.mpr ⟨hz, decide_eq_true d⟩) n
    · rw [decide_eq_false d]
      rfl
  by_cases a : x ∈ nearP pl ts e
  · by_cases b : y ∈ nearP pl ts e
    · rw [decide_eq_true a, decide_eq_true b] at c
      cases c
    · exact .inl ⟨a, off y hy b⟩
  · by_cases b : y ∈ nearP pl ts e
    · exact .inr ⟨off x hx a, b⟩
    · rw [decide_eq_false a, decide_eq_false b] at c
      cases c
theorem acr_ne {e : Tie} {i : Nat} (c : CutF pl ts i e) {x y : Nm} (h : acrE pl ts e x y) : (decide (x ∈ nearP pl ts e) != decide (y ∈ nearP pl ts e)) = true := by
  rcases h with ⟨a, b⟩ | ⟨a, b⟩
  · rw [decide_eq_true a, decide_eq_false fun z => c.dis y z b]
    rfl
  · rw [decide_eq_false fun z => c.dis x z a, decide_eq_true b]
    rfl
theorem acr_symm {e : Tie} {x y : Nm} (h : acrE pl ts e x y) : acrE pl ts e y x := by
  rcases h with ⟨p, q⟩ | ⟨p, q⟩
  · exact .inr ⟨q, p⟩
  · exact .inl ⟨q, p⟩
theorem over_comm (e : Tie) (x y : Nm) : overE pl ts e x y = overE pl ts e y x := by
  unfold overE
  rw [show rE pl ts e x + e.2.2 + rE pl ts e y = rE pl ts e y + e.2.2 + rE pl ts e x by omega]
/-- of two places in unlike parts the pair in order is among the changes -/
theorem allC_has (T : IsTree pl ts) {i : Nat} {e : Tie} (he : ts[i]? = some e) {x y : Nm} (hx : x ∈ pl) (hy : y ∈ pl) (a : acrE pl ts e x y) (o : pl.idxOf x < pl.idxOf y) : (overE pl ts e x y, (i : Int), x, y) ∈ allC pl ts ts.length := by
  have il := (List.getElem?_eq_some_iff.mp he).1
  have gx : pl[pl.idxOf x]? = some x := by rw [List.getElem?_eq_getElem (List.idxOf_lt_length_of_mem hx), List.getElem_idxOf]
  have gy : pl[pl.idxOf y]? = some y := by rw [List.getElem?_eq_getElem (List.idxOf_lt_length_of_mem hy), List.getElem_idxOf]
  unfold allC
  refine List.mem_flatMap.mpr ⟨i, List.mem_range.mpr il, ?_⟩
  rw [List.getD_eq_getElem?_getD, he]
  exact List.mem_map.mpr ⟨(x, y), btw_has gx gy o (acr_ne (T.cutF he) a), rfl⟩
theorem allC_is (T : IsTree pl ts) {z : Qua} (h : z ∈ allC pl ts ts.length) : ∃ (i : Nat) (e : Tie) (x y : Nm), ts[i]? = some e ∧ z = (overE pl ts e x y, (i : Int), x, y) ∧ x ∈ pl ∧ y ∈ pl ∧ pl.idxOf x < pl.idxOf y ∧ acrE pl ts e x y := by
  unfold allC at h
  obtain ⟨i, hi, hz⟩ := List.mem_flatMap.mp h
  have il := List.mem_range.mp hi
  obtain ⟨⟨x, y⟩, hp, rfl⟩ := List.mem_map.mp hz
  have he : ts[i]? = some ts[i] := List.getElem?_eq_getElem il
  rw [List.getD_eq_getElem?_getD, he] at hp ⊢
  obtain ⟨a, b, c, d⟩ := btw_facts T.nodup hp
  exact ⟨i, ts[i], x, y, he, rfl, a, b, c, acr_of a b d⟩
theorem allC_ne (T : IsTree pl ts) (ne : ts ≠ []) : allC pl ts ts.length ≠ [] := by
  obtain ⟨e, r, et⟩ : ∃ e r, ts = e :: r := by
    cases ts with
    | nil => exact absurd rfl ne
    | cons e r => exact ⟨e, r, rfl⟩
  have he : ts[0]? = some e := by rw [et]; rfl
  have c := T.cutF he
  have m1 : e.1 ∈ pl := c.ps.mem_iff.mp (List.mem_append_left _ c.ma)
  have m2 : e.2.1 ∈ pl := c.ps.mem_iff.mp (List.mem_append_right _ c.mb)
  rcases Nat.lt_trichotomy (pl.idxOf e.1) (pl.idxOf e.2.1) with o | o | o
  · exact List.ne_nil_of_mem (allC_has T he m1 m2 (.inl ⟨c.ma, c.mb⟩) o)
  · have l1 := List.idxOf_lt_length_of_mem m1
    have e1 : pl[pl.idxOf e.1] = e.1 := List.getElem_idxOf l1
    have l2 := List.idxOf_lt_length_of_mem m2
    have e2 : pl[pl.idxOf e.2.1] = e.2.1 := List.getElem_idxOf l2
    have : e.1 = e.2.1 := by rw [← e1, ← e2]; simp only [o]
    exact absurd (this ▸ c.ma) fun z => c.dis _ z c.mb
  · exact List.ne_nil_of_mem (allC_has T he m2 m1 (.inr ⟨c.mb, c.ma⟩) o)
/-- some pair in order, whichever way about the two are told -/
theorem idx_ne {x y : Nm} (hx : x ∈ pl) (hy : y ∈ pl) (n : x ≠ y) : pl.idxOf x ≠ pl.idxOf y := fun o => by
  have l1 := List.idxOf_lt_length_of_mem hx
  have e1 : pl[pl.idxOf x] = x := List.getElem_idxOf l1
  have l2 := List.idxOf_lt_length_of_mem hy
  have e2 : pl[pl.idxOf y] = y := List.getElem_idxOf l2
  refine n ?_
  rw [← e1, ← e2]
  simp only [o]
theorem FLq.best (T : IsTree pl ts) {z : Qua} (h : FLq (allC pl ts ts.length) z) {i : Nat} {e : Tie} (he : ts[i]? = some e) {x y : Nm} (hx : x ∈ pl) (hy : y ∈ pl) (a : acrE pl ts e x y) : z.1 ≤ overE pl ts e x y := by
  have c := T.cutF he
  have n : x ≠ y := fun q => by
    subst q
    rcases a with ⟨a, b⟩ | ⟨a, b⟩
    · exact c.dis _ a b
    · exact c.dis _ b a
  rcases Nat.lt_or_gt_of_ne (idx_ne hx hy n) with o | o
  · exact h.le (allC_has T he hx hy a o)
  · rw [over_comm]
    exact h.le (allC_has T he hy hx (acr_symm a) o)
end
end Far

namespace Far
open PySem PySem.Spec PyProof.Rows L2 LamX
open C8 (pss_cut tCut)
open SX (S)
theorem dt_qua {H : Hp} {v : V} {x : Qua} (h : Dt H v (quaD x)) : ∃ t : Addr, v = .ref t ∧ H t = some (.tup [.int x.1, .int x.2.1, .str (S x.2.2.1), .str (S x.2.2.2)]) := by
  obtain ⟨t, xs, rfl, ht, hs⟩ := dt_tup h fun _ => ⟨.int x.1, by simp [quaD], fun l z => nomatch z⟩
  cases hs with
  | cons h1 hr =>
    cases hr with
    | cons h2 hr =>
      cases hr with
      | cons h3 hr =>
        cases hr with
        | cons h4 hr =>
          cases hr
          cases h1
          cases h2
          cases h3
          cases h4
          exact ⟨t, rfl, ht⟩
theorem flq_of {H : Hp} {ws : List V} {ps : List Qua} (h : DtAll H ws (ps.map quaD)) {y : V} (fl : FirstLeast ws (fun z => fstK H z) y) : ∃ x, FLq ps x ∧ Dt H y (quaD x) := by
  have at_ : ∀ (j : Nat) (x : Qua), ps[j]? = some x → ∃ v, ws[j]? = some v ∧ Dt H v (quaD x) := fun j x hx => by
    have hl := DtAll.len h
    rw [List.length_map] at hl
    have jl := (List.getElem?_eq_some_iff.mp hx).1
    have hv : ws[j]? = some (ws[j]'(by omega)) := List.getElem?_eq_getElem (by omega)
    obtain ⟨d, hd, hv'⟩ := DtAll.get h hv
    rw [List.getElem?_map, hx] at hd
    cases hd
    exact ⟨_, hv, hv'⟩
  have key : ∀ (v : V) (x : Qua), Dt H v (quaD x) → fstK H v = x.1 := fun v x hx => by
    obtain ⟨u, rfl, hu⟩ := dt_qua hx
    exact fstK_is hu
  obtain ⟨i, hi, all, bef⟩ := fl
  obtain ⟨d, hd, hy⟩ := DtAll.get h hi
  rw [List.getElem?_map] at hd
  cases ex : ps[i]? with
  | none => rw [ex] at hd; cases hd
  | some x =>
    rw [ex] at hd
    cases hd
    refine ⟨x, ⟨i, ex, fun j z hz => ?_, fun j z hj hz => ?_⟩, hy⟩
    · obtain ⟨v, hv, hvd⟩ := at_ j z hz
      have q := all j v hv
      dsimp only at q ⊢
      rw [key _ _ hy, key _ _ hvd] at q
      exact q
    · obtain ⟨v, hv, hvd⟩ := at_ j z hz
      have q := bef j v hj hv
      dsimp only at q ⊢
      rw [key _ _ hy, key _ _ hvd] at q
      exact q
theorem fst_keysQ {H : Hp} {ws : List V} {ps : List Qua} (h : DtAll H ws (ps.map quaD)) : ∀ y ∈ ws, ∃ t zs, y = V.ref t ∧ H t = some (.tup (.int (fstK H y) :: zs)) := fun y hy => by
  obtain ⟨i, hi⟩ := List.getElem?_of_mem hy
  obtain ⟨d, hd, hv⟩ := DtAll.get h hi
  rw [List.getElem?_map] at hd
  cases ex : ps[i]? with
  | none => rw [ex] at hd; cases hd
  | some x =>
    rw [ex] at hd
    cases hd
    obtain ⟨u, rfl, hu⟩ := dt_qua hv
    exact ⟨u, _, rfl, by rw [fstK_is hu]; exact hu⟩
abbrev s_best_change : Stmt := topS 31
abbrev N_best_change : List Str := ["tree", "apart", "changes", "number"]
theorem sc_best_change : FnScope N_best_change ["tree"] (defScope s_best_change) := ⟨rfl, rfl, rfl, by decide +kernel, rfl, by decide +kernel, by decide +kernel⟩
section
variable {P : Program} {w : World} {K : PySem.W.Frag} {mg : Str → Option Value} {base : Heap} {Pc : Addr} {TL : List (Addr × Str)}
def qC : Str := ("best_change" : Str) ++ ".<locals>." ++ "<lambda>"
def spBC (TL : List (Addr × Str)) : Sp := fun vs H Q _ => ∃ (v : V) (pl : List Nm) (ts : List Tie), vs = [v] ∧ Dt H v (treeD pl ts) ∧ Fine pl ts ∧ pl.length ≤ 40 ∧ Tabs TL H ∧ (ts = [] → ∀ H' : Hp, ExtN H H' → Tabs TL H' → Q .non H') ∧
  ∀ (H' : Hp) (r : V) (z : Qua), ExtN H H' → Tabs TL H' → FLq (allC pl ts ts.length) z → Dt H' r (quaD z) → Q r H'
theorem ok_best_change {f c : Addr} {fd : FuncData} (F : FunC K "best_change" "best_change" s_best_change f fd c) (T : TxtE mg) (hmC : (Pc, qC) ∈ TL) (huC : ∀ p ∈ TL, p.1 = Pc → p.2 = qC) (TB : TabB base mg c Pc) (C_lengths_apart : Cal P w K mg base 4 "_lengths_apart" spApart) (C_changes_of : Cal P w K mg base 4 "_changes_of" spChanges) : FnOk P w K mg base CX0 5 f fd ["tree"] (spBC TL) := by
  refine F.ok sc_best_change (fun vs H Q E h => ?_) (fun A outer s H vs Q E hr h => ?_)
  · obtain ⟨v, pl, ts, rfl, _⟩ := h
    rfl
  · obtain ⟨v, pl, ts, rfl, hd, fine, l40, hT, q0, q⟩ := h
    obtain ⟨t, a, b, vs, rfl, ht, ha, hb, hA⟩ := dt_tree hd
    refine ⟨_, (pss_cons (ps_set (i := 1) sc_best_change.nd rfl (.inl rfl) (pe_c C_lengths_apart hr (by decide) rfl (pa_cons (pv 0) pa_nil)))
      (pss_cons (ps_set (i := 2) sc_best_change.nd rfl (.inl rfl) (pe_lst pa_nil))
      (pss_cut (ps_for PassesOwn.never rfl (pi_range1 (by rfl) T.range (pa_cons (pe_callB call_len_seq (by rfl) T.len bt_len (pa_cons (pe_ix ix_tup (pv 0) pe_int (fun _ _ => rfl)) pa_nil)) pa_nil)) (pg_name (i := 3) sc_best_change.nd rfl (.inl rfl))
        (pss_one (ps_expr (pe_bm PySem.F.plainAttrs_list PySem.F.slot_list_extend PySem.F.type_list_extend mt_extend (pv 2) (pa_cons (pe_c C_changes_of hr (by decide) rfl (pa_cons (pv 0) (pa_cons (pv 3) (pa_cons (pv 1) pa_nil)))) pa_nil)))))
      (pss_one (ps_ret (pe_callLD TB (by rfl) hmC huC (cr_minLamD (y := "change") (g := id) (hr.mono (by decide)) (by exact ⟨rfl, rfl, rfl, by decide, by decide, rfl⟩) body_fst (fun _ _ _ _ _ => rfl)) (by rfl) T.min bt_min (pa_cons (pv 2) pa_nil) (by rfl) (by decide))))))), ?_⟩
    have tl := fine.tree.len
    have vl : vs.length = ts.length := by
      have := DtAll.len hA
      rwa [List.length_map] at this
    refine ⟨_, rfl, .ref t, pl, ts, rfl, hd, fine, fun H1 D ad S1 nD ap => ?_⟩
    refine ⟨Nat.zero_le _, fun L nL => ?_⟩
    have S2 := same_new (o := .lst []) S1 nL
    have nL0 := S1.free nL
    refine ⟨fun σ' H' => ∃ (x3 : Option V) (ws : List V), σ' = [some (.ref t), some (.ref D), some (.ref L), x3] ∧ Same H H' ∧ H' L = some (.lst ws) ∧ DtAll H' ws ((allC pl ts ts.length).map quaD), ?_, fun σ' H' hM => ?_⟩
    rotate_left
    · obtain ⟨x3, ws, rfl, SM, hL, hW⟩ := hM
      refine ⟨_, rfl, hT.ext SM, fun H2 e2 T2 => ?_⟩
      have hW2 := DtAll.keep (TK.ofN e2) hW
      refine ⟨L, ws, fstK H2, rfl, SqL.of (e2 _ _ hL (fun ps z => by cases z)), fst_keysQ hW2, fun z => ?_, fun y fl => ?_⟩
      · subst z
        have := DtAll.len hW
        rw [List.length_map] at this
        have tz : ts = [] := Classical.byContradiction fun tne => allC_ne fine.tree tne (List.length_eq_zero_iff.mp this.symm)
        exact q0 tz H2 (fun b o h n => e2 b o (SM b o h) n) T2
      · obtain ⟨x, hx, hy⟩ := flq_of hW2 fl
        exact q H2 y x (fun b o h n => e2 b o (SM b o h) n) T2 hx hy
    · have hL0 : (upd H1 L (.lst [])) L = some (.lst []) := upd_same
      have ap2 := ap.same (same_new (o := .lst []) (Same.refl H1) nL)
      generalize upd H1 L (.lst []) = H2 at S2 hL0 ap2
      refine ⟨_, rfl, t, _, 1, .ref b, rfl, rfl, SqT.of (S2 _ _ ht), atI_nat (j := 1) rfl, b, _, rfl, .inr (SqT.of (S2 _ _ hb)), _, rfl, by omega, by omega, ?_⟩
      refine for_range (lo := 0) (n := (((vs.length : Nat) : Int)).toNat) (fun i σ' H' => ∃ (x3 : Option V) (ws : List V), σ' = [some (.ref t), some (.ref D), some (.ref L), x3] ∧ Same H H' ∧ ApAt H' D ad pl ts pl ∧ H' L = some (.lst ws) ∧ DtAll H' ws ((allC pl ts i).map quaD)) ⟨none, [], rfl, S2, ap2, hL0, .nil⟩ (fun i σ' H' hi hP => ?_) (fun σ' H' hP => ?_)
      · obtain ⟨x3, ws, rfl, SM, ap3, hL, hW⟩ := hP
        have hi : i < vs.length := by simpa using hi
        obtain ⟨e, he⟩ : ∃ e, ts[i]? = some e := ⟨ts[i]'(by omega), List.getElem?_eq_getElem (by omega)⟩
        have ei : (0 : Int) + (i : Int) = ((i : Nat) : Int) := by omega
        refine ⟨_, rfl, .inl ⟨rfl, _, SqL.of hL⟩, _, rfl, _, rfl, _, rfl, .ref t, D, ad, pl, ts, i, e, by rw [ei]; rfl, Dt.keep (TK.of SM) hd, fine, he, ap3, fun H4 g zs S4 hg hZ => ?_⟩
        have S5 := SM.trans S4
        have hL4 := S4 _ _ hL
        have ap4 := ap3.same S4
        have hW4 := DtAll.keep (TK.of S4) hW
        have wl := DtAll.len hW
        have zl := DtAll.len hZ
        have b1 := allC_len pl ts i
        have b2 := chs_len pl ts i e
        have b3 : pl.length * pl.length ≤ 40 * 40 := Nat.mul_le_mul l40 l40
        have b4 : i * (pl.length * pl.length) ≤ 40 * (40 * 40) := Nat.mul_le_mul (by omega) b3
        rw [List.length_map] at wl zl
        refine ⟨L, g, ws, zs, rfl, rfl, hL4, hg, sz_le (by omega), ?_⟩
        have tk := TK.mut (o := .lst (ws ++ zs)) hL4
        have LD : D ≠ L := ne_of ap4.out hL4 (by intro z; cases z)
        refine ⟨_, ws ++ zs, rfl, same_put S5 nL0, ⟨by rw [upd_ne LD]; exact ap4.out, fun x hx => by rw [upd_ne (ne_of (ap4.inn x hx) hL4 (by intro z; cases z))]; exact ap4.inn x hx, ap4.ne⟩, upd_same, ?_⟩
        rw [allC_succ, List.getD_eq_getElem?_getD, he, List.map_append]
        exact DtAll.app (DtAll.keep tk hW4) (DtAll.keep tk hZ)
      · obtain ⟨x3, ws, rfl, SM, _, hL, hW⟩ := hP
        have en : (((vs.length : Nat) : Int)).toNat = ts.length := by omega
        rw [en] at hW
        exact ⟨x3, ws, rfl, SM, hL, hW⟩
end
end Far

namespace Far
open PySem PySem.Spec PyProof.Rows L2
open C8 (pss_cut tCut)
open SX (S)
/-! ### walks over tuples and lists, whatever a turn does -/
theorem walk_tup {K : PySem.W.Frag} {a : Addr} {xs : List V} {B : (Hp → Prop) → V → Hp → Prop} {H0 : Hp} {Qd : Hp → Prop} (Pv : Nat → Hp → Prop) (h0 : Pv 0 H0) (hl : ∀ i H, i ≤ xs.length → Pv i H → SqT K H a xs) (hs : ∀ i x H, xs[i]? = some x → Pv i H → B (Pv (i + 1)) x H) (hd : ∀ H, Pv xs.length H → Qd H) :
    ∃ W : Nat → Nat → Hp → Prop, (∃ m, W 0 m H0) ∧ ∀ i m H, W i m H → ((Itt K a).stop i H ∧ Qd H) ∨ ((Itt K a).go i H ∧ ∃ Nx : Hp → Prop, (∀ H', Nx H' → ∃ m', m' < m ∧ W (i + 1) m' H') ∧ ∀ x H', (Itt K a).yld i H x H' → B Nx x H') := by
  refine ⟨fun i m H => m = xs.length - i ∧ i ≤ xs.length ∧ Pv i H, ⟨xs.length, by simp, Nat.zero_le _, h0⟩, ?_⟩
  rintro i m H ⟨rfl, hi, p⟩
  have q := hl i H hi p
  by_cases hlt : i < xs.length
  · refine .inr ⟨⟨xs, xs[i], q, by simp [hlt]⟩, Pv (i + 1), fun H' p' => ⟨xs.length - (i + 1), by omega, rfl, hlt, p'⟩, fun x H' y => ?_⟩
    obtain ⟨e, y⟩ := y
    subst e
    exact hs i x _ (y xs q) p
  · have e : i = xs.length := by omega
    subst e
    exact .inl ⟨⟨xs, q, Nat.le_refl _⟩, hd H p⟩
/-! ### how many ties a place has -/
def deg (ts : List Tie) (x : Nm) : Nat := (ts.map (·.1)).countP (fun z => decide (z = x)) + (ts.map (·.2.1)).countP (fun z => decide (z = x))
def ends (ts : List Tie) : List Nm := ts.flatMap fun t => [t.1, t.2.1]
theorem ends_deg (x : Nm) : ∀ ts : List Tie, (ends ts).countP (fun z => decide (z = x)) = deg ts x
  | [] => rfl
  | t :: r => by
    have ih := ends_deg x r
    unfold ends deg at *
    rw [List.flatMap_cons, List.countP_append, ih]
    simp only [List.map_cons, List.countP_cons, List.countP_nil]
    omega
def leavesOf (pl : List Nm) (ts : List Tie) : List Nm := pl.filter fun x => decide (deg ts x = 1)
theorem eqV_S (a b : Nm) : eqV (.str (S a)) (.str (S b)) = decide (a = b) := by
  show (S a == S b) = _
  exact SX.S_beq_eq
theorem count_S (x : Nm) : ∀ ls : List Nm, (((ls.map S).map V.str).countP fun z => eqV z (.str (S x))) = ls.countP fun z => decide (z = x)
  | [] => rfl
  | l :: r => by
    rw [List.map_cons, List.map_cons, List.countP_cons, List.countP_cons, count_S x r, eqV_S]
structure TxtK0 (mg : Str → Option Value) : Prop where
  tuple : mg "tuple" = none
  enumerate : mg "enumerate" = none
abbrev s_leaves_of : Stmt := topS 44
abbrev N_leaves_of : List Str := ["tree", "places", "ties", "ends", "tie", "end", "place"]
theorem sc_leaves_of : FnScope N_leaves_of ["tree"] (defScope s_leaves_of) := ⟨rfl, rfl, rfl, by decide +kernel, rfl, by decide +kernel, by decide +kernel⟩
section
variable {P : Program} {w : World} {K : PySem.W.Frag} {mg : Str → Option Value} {base : Heap}
def spLeaves : Sp := fun vs H Q _ => ∃ (v : V) (pl : List Nm) (ts : List Tie), vs = [v] ∧ Dt H v (treeD pl ts) ∧ pl.length ≤ 1000 ∧ ts.length ≤ 1000 ∧ ∀ (H' : Hp) (q : Addr), Same H H' → H q = none → H' q = some (.tup (((leavesOf pl ts).map S).map V.str)) → Q (.ref q) H'
theorem ok_leaves_of {f : Addr} {fd : FuncData} (F : Fun K "leaves_of" "leaves_of" s_leaves_of f fd) (T : TxtK0 mg) : FnOk P w K mg base CX0 1 f fd ["tree"] spLeaves := by
  refine F.ok sc_leaves_of (fun vs H Q E h => ?_) (fun cdv A outer s H vs Q E hr h => ?_)
  · obtain ⟨v, pl, ts, rfl, _⟩ := h
    rfl
  · obtain ⟨v, pl, ts, rfl, hd, l1, l2, q⟩ := h
    obtain ⟨t, a, b, vs, rfl, ht, ha, hb, hA⟩ := dt_tree hd
    have vl : vs.length = ts.length := by
      have := DtAll.len hA
      rwa [List.length_map] at this
    refine ⟨_, (pss_cons (ps_asg (pv 0) (pg_tup rfl (pgs_cons (pg_name (i := 1) sc_leaves_of.nd rfl (.inl rfl)) (pgs_cons (pg_name (i := 2) sc_leaves_of.nd rfl (.inl rfl)) pgs_nil))))
      (pss_cons (ps_set (i := 3) sc_leaves_of.nd rfl (.inr rfl) (pe_lc2 (own := [("tie", 4), ("end", 5)]) (vs1 := [5]) (g := gName 4) (g1 := gName 5) (tt := tYes) (tt1 := tYes) rfl sc_leaves_of.nd (pi_tup (pv 2)) (blkOk_by (N := N_leaves_of) (sc := defScope s_leaves_of) (by decide +kernel)) (by decide) (fun _ _ _ _ _ => (pg_name (i := 4) sc_leaves_of.nd rfl (.inl rfl))) (fun _ _ _ _ _ => pts_nil) (fun _ _ _ _ _ => (pi_tupK (K := K) (pe_slice (slTK (K := K)) (pv 4) po_none (po_some pe_int)))) (fun _ _ _ _ _ => (pg_name (i := 5) sc_leaves_of.nd rfl (.inl rfl))) (fun _ _ _ _ _ => pts_nil) (fun _ _ _ _ _ => (pv 5))))
      (pss_one (ps_ret (pe_tupleOf (by rfl) T.tuple (pe_lc (own := [("place", 6)]) (g := gName 6)  rfl sc_leaves_of.nd (pi_tup (pv 1)) (blkOk_by (N := N_leaves_of) (sc := defScope s_leaves_of) (by decide +kernel)) (fun _ _ _ _ _ => pg_name (i := 6) sc_leaves_of.nd rfl (Or.inl rfl)) (fun _ _ _ _ _ => pts_one (pt_cmpR op_eq (show PE _ _ (tBM K "list" (rCountV K) _ _) from pe_bm PySem.F.plainAttrs_list PySem.F.slot_list_count PySem.F.type_list_count (mt_countV (K := K)) (pv 3) (pa_cons (pv 6) pa_nil)) pe_int (nomark _))) (fun _ _ _ _ _ => (pv 6)))))))), ?_⟩
    refine ⟨_, rfl, t, _, rfl, SqT.of ht, rfl, _, _, rfl, _, _, rfl, rfl, ?_⟩
    refine ⟨_, rfl, b, rfl, ⟨_, SqT.of hb⟩, fun D nD => ?_⟩
    refine walk_tup (K := K) (a := b) (xs := vs) (fun i H' => Same H H' ∧ H' D = some (.lst (((ends (ts.take i)).map S).map V.str))) ⟨same_new (Same.refl H) nD, upd_same⟩ (fun i H' _ hP => SqT.of (hP.1 _ _ hb)) (fun i v H' hi hP => ?_) (fun H' hP => ?_)
    · obtain ⟨SM, hD⟩ := hP
      obtain ⟨t3, p3, ht3, rfl, hp3⟩ := tie_at (DtAll.keep (TK.of SM) hA) hi
      have il := (List.getElem?_eq_some_iff.mp ht3).1
      have et : ts.take (i + 1) = ts.take i ++ [t3] := by rw [List.take_add_one, ht3]; rfl
      refine ⟨rfl, _, rfl, 2, rfl, p3, _, rfl, SqT.of hp3, (fun z => nomatch z.2), fun e ne => ?_⟩
      have De : D ≠ e := ne_of_none hD ne
      have he : (upd H' e (.tup [.str (S t3.1), .str (S t3.2.1)])) e = some (.tup [.str (S t3.1), .str (S t3.2.1)]) := upd_same
      have SM2 := same_new (o := .tup [.str (S t3.1), .str (S t3.2.1)]) SM ne
      have hD2 : (upd H' e (.tup [.str (S t3.1), .str (S t3.2.1)])) D = some (.lst (((ends (ts.take i)).map S).map V.str)) := by
        rw [upd_ne De]
        exact hD
      have ecut : cutV [V.str (S t3.1), .str (S t3.2.1), .int t3.2.2] none (some 2) = [.str (S t3.1), .str (S t3.2.1)] := rfl
      rw [ecut]
      generalize upd H' e (.tup [.str (S t3.1), .str (S t3.2.1)]) = H2 at he SM2 hD2
      have ll : (ends (ts.take i)).length ≤ 2 * i := by
        unfold ends
        rw [List.length_flatMap]
        have : ((ts.take i).map fun t => [t.1, t.2.1].length).sum = 2 * (ts.take i).length := by
          generalize ts.take i = ys
          induction ys with
          | nil => rfl
          | cons y r ih => simp at *; omega
        rw [this, List.length_take]
        omega
      refine ⟨e, rfl, ⟨_, SqT.of he⟩, ?_⟩
      refine walk_tup (K := K) (a := e) (xs := (([t3.1, t3.2.1] : List Nm).map S).map V.str) (fun j H' => H' e = some (.tup [.str (S t3.1), .str (S t3.2.1)]) ∧ Same H H' ∧ H' D = some (.lst (((ends (ts.take i) ++ ([t3.1, t3.2.1] : List Nm).take j).map S).map V.str))) ⟨he, SM2, by simpa using hD2⟩ (fun j H' _ hP => SqT.of hP.1) (fun j v H' hj hP => ?_) (fun H' hP => ?_)
      · obtain ⟨he', SM3, hD3⟩ := hP
        obtain ⟨x, hx, mx, rfl, ex⟩ := at_name hj
        have jl : j < 2 := (List.getElem?_eq_some_iff.mp hx).1
        refine ⟨rfl, _, rfl, _, hD3, by rw [List.length_map, List.length_map, List.length_append, List.length_take]; exact sz_lt (by omega), by rw [upd_ne De.symm]; exact he', same_put SM3 nD, ?_⟩
        rw [upd_same, ex, List.map_append, List.map_append, List.map_append, List.map_append, List.map_append, List.map_append]
        simp
      · obtain ⟨he', SM3, hD3⟩ := hP
        refine ⟨SM3, ?_⟩
        rw [et]
        unfold ends at *
        rw [List.flatMap_append]
        simpa using hD3
    obtain ⟨SM, hD⟩ := hP
    rw [List.take_of_length_le (by omega)] at hD
    have el : (ends ts).length ≤ 2000 := by
      unfold ends
      rw [List.length_flatMap]
      have : (ts.map fun t => [t.1, t.2.1].length).sum = 2 * ts.length := by
        clear hD SM
        generalize ts = ys
        induction ys with
        | nil => rfl
        | cons y r ih => simp at *; omega
      rw [this]
      omega
    refine ⟨_, rfl, a, rfl, ⟨_, (ha.same SM).sq⟩, fun G nG => ?_⟩
    have GD : D ≠ G := ne_of_none hD nG
    refine lc_tup (K := K) (a := a) (xs := (pl.map S).map V.str) (fun i H'' => Same H H'' ∧ H'' D = some (.lst (((ends ts).map S).map V.str)) ∧ H'' G = some (.lst (((leavesOf (pl.take i) ts).map S).map V.str))) ⟨same_new SM nG, by rw [upd_ne GD]; exact hD, upd_same⟩ (fun i H'' _ hP => (ha.same hP.1).sq) (fun i v H'' hi hP => ?_) (fun H'' hP => ?_)
    · obtain ⟨S2, hD2, hG⟩ := hP
      obtain ⟨x, hx, mx, rfl, ex⟩ := at_name hi
      have il := (List.getElem?_eq_some_iff.mp hx).1
      refine ⟨rfl, _, rfl, .inl ⟨rfl, _, SqL.of hD2⟩, _, rfl, D, _, _, rfl, rfl, SqL.of hD2, rfl, flat_strs _, rfl, _, rfl, ?_⟩
      rw [count_S, ends_deg]
      have gl : (leavesOf (pl.take i) ts).length ≤ 1000 := by
        unfold leavesOf
        have := List.length_filter_le (fun x => decide (deg ts x = 1)) (pl.take i)
        rw [List.length_take] at this
        omega
      by_cases c : deg ts x = 1
      · rw [c]
        refine iteT ⟨_, rfl, _, hG, by rw [List.length_map, List.length_map]; exact sz_lt (by omega), same_put S2 (SM.free nG), by rw [upd_ne GD]; exact hD2, ?_⟩
        rw [upd_same, ex]
        unfold leavesOf
        rw [List.filter_append, List.filter_cons_of_pos (by simp [c]), List.map_append, List.map_append]
        rfl
      · rw [decide_eq_false (fun z => c (by have := V.int.inj z; omega))]
        refine iteF ⟨S2, hD2, ?_⟩
        rw [ex]
        unfold leavesOf at *
        rw [List.filter_append, List.filter_cons_of_neg (by simp [c])]
        simpa using hG
    · obtain ⟨S2, hD2, hG⟩ := hP
      rw [List.length_map, List.length_map, List.take_length] at hG
      exact .inl ⟨G, _, rfl, SqL.of hG, fun q1 nq1 => q _ q1 (same_new S2 nq1) (S2.free nq1) upd_same⟩
end
end Far

namespace Far
open PySem PySem.Spec PyProof.Rows L2
open C8 (pss_cut tCut)
open SX (S)
def but (pl : List Nm) (x : Nm) : List Nm := pl.filter fun y => !decide (y = x)
abbrev s_part_of : Stmt := topS 47
abbrev N_part_of : List Str := ["tree", "places", "kept", "place", "tie"]
theorem sc_part_of : FnScope N_part_of ["tree", "places"] (defScope s_part_of) := ⟨rfl, rfl, rfl, by decide +kernel, rfl, by decide +kernel, by decide +kernel⟩
section
variable {P : Program} {w : World} {K : PySem.W.Frag} {mg : Str → Option Value} {base : Heap}
def keptP (pl ps : List Nm) : List Nm := pl.filter fun x => decide (x ∈ ps)
def keptT (kl : List Nm) (ts : List Tie) : List Tie := ts.filter fun t => decide (t.1 ∈ kl) && decide (t.2.1 ∈ kl)
def spPart : Sp := fun vs H Q _ => ∃ (v : V) (p : Addr) (pl ps : List Nm) (ts : List Tie), vs = [v, .ref p] ∧ Dt H v (treeD pl ts) ∧ H p = some (.lst ((ps.map S).map V.str)) ∧ pl.length ≤ 1000 ∧ ts.length ≤ 1000 ∧ keptP pl ps ≠ [] ∧ ∀ (H' : Hp) (r : Addr), Same H H' → H r = none → Dt H' (.ref r) (treeD (keptP pl ps) (keptT (keptP pl ps) ts)) → PlZ H' (.ref r) (keptP pl ps) → Q (.ref r) H'
theorem ok_part_of {f : Addr} {fd : FuncData} (F : Fun K "part_of" "part_of" s_part_of f fd) (T : TxtK0 mg) : FnOk P w K mg base CX0 1 f fd ["tree", "places"] spPart := by
  refine F.ok sc_part_of (fun vs H Q E h => ?_) (fun cdv A outer s H vs Q E hr h => ?_)
  · obtain ⟨v, p, pl, ps, ts, rfl, _⟩ := h
    rfl
  · obtain ⟨v, p, pl, ps, ts, rfl, hd, hp, l1, l2, kne, q⟩ := h
    obtain ⟨t, a, b, vs, rfl, ht, ha, hb, hA⟩ := dt_tree hd
    have vl : vs.length = ts.length := by
      have := DtAll.len hA
      rwa [List.length_map] at this
    refine ⟨_, (pss_cons (ps_set (i := 2) sc_part_of.nd rfl (.inr rfl) (pe_tupleZ (by rfl) T.tuple (pe_lc (own := [("place", 3)]) (g := gName 3)  rfl sc_part_of.nd (pi_tup (pe_ix ix_tup (pv 0) pe_int (fun _ _ => rfl))) (blkOk_by (N := N_part_of) (sc := defScope s_part_of) (by decide +kernel)) (fun _ _ _ _ _ => pg_name (i := 3) sc_part_of.nd rfl (Or.inl rfl)) (fun _ _ _ _ _ => pts_one (pt_cmpR (inK (K := K)) (pv 3) (pv 1) rfl)) (fun _ _ _ _ _ => (pv 3)))))
      (pss_one (ps_ret (pe_tup (pa_cons (pv 2) (pa_cons (pe_tupleOf (by rfl) T.tuple (pe_lc (own := [("tie", 4)]) (g := gName 4)  rfl sc_part_of.nd (pi_tup (pe_ix ix_tup (pv 0) pe_int (fun _ _ => rfl))) (blkOk_by (N := N_part_of) (sc := defScope s_part_of) (by decide +kernel)) (fun _ _ _ _ _ => pg_name (i := 4) sc_part_of.nd rfl (Or.inl rfl)) (fun _ _ _ _ _ => pts_one (PW.pt (pw_and (pt_cmpR (inK (K := K)) (pe_ix (ixt (K := K)) (pv 4) pe_int (fun _ _ => rfl)) (pv 2) rfl) (pw_and1 (pt_cmpR (inK (K := K)) (pe_ix (ixt (K := K)) (pv 4) pe_int (fun _ _ => rfl)) (pv 2) rfl))))) (fun _ _ _ _ _ => (pv 4)))) pa_nil)))))), ?_⟩
    refine ⟨_, rfl, t, _, 0, .ref a, rfl, rfl, SqT.of ht, atI_nat (j := 0) rfl, a, rfl, ⟨_, ha.sq⟩, fun D nD => ?_⟩
    refine lc_tup (K := K) (a := a) (xs := (pl.map S).map V.str) (fun i H' => Same H H' ∧ H' D = some (.lst (((keptP (pl.take i) ps).map S).map V.str))) ⟨same_new (Same.refl H) nD, upd_same⟩ (fun i H' _ hP => (ha.same hP.1).sq) (fun i v H' hi hP => ?_) (fun H' hP => ?_)
    · obtain ⟨SM, hD⟩ := hP
      obtain ⟨x, hx, mx, rfl, ex⟩ := at_name hi
      have il := (List.getElem?_eq_some_iff.mp hx).1
      refine ⟨rfl, _, rfl, _, rfl, p, _, rfl, .inl (SqL.of (SM _ _ hp)), rfl, flat_strs ps, _, rfl, ?_⟩
      rw [inV_strs]
      have gl : (keptP (pl.take i) ps).length ≤ 1000 := by
        unfold keptP
        have := List.length_filter_le (fun x => decide (x ∈ ps)) (pl.take i)
        rw [List.length_take] at this
        omega
      by_cases c : x ∈ ps
      · rw [decide_eq_true c]
        refine iteT ⟨_, rfl, _, hD, by rw [List.length_map, List.length_map]; exact sz_lt (by omega), same_put SM nD, ?_⟩
        rw [upd_same, ex]
        unfold keptP
        rw [List.filter_append, List.filter_cons_of_pos (by simp [c]), List.map_append, List.map_append]
        rfl
      · rw [decide_eq_false c]
        refine iteF ⟨SM, ?_⟩
        rw [ex]
        unfold keptP at *
        rw [List.filter_append, List.filter_cons_of_neg (by simp [c])]
        simpa using hD
    obtain ⟨SM, hD⟩ := hP
    rw [List.length_map, List.length_map, List.take_length] at hD
    refine ⟨D, _, rfl, SqL.of hD, fun k ok nk odk => ?_⟩
    have SM2 := same_new (o := .frz ok (.tup (((keptP pl ps).map S).map V.str))) SM nk
    have hk : (upd H' k (.frz ok (.tup (((keptP pl ps).map S).map V.str)))) k = some (.frz ok (.tup (((keptP pl ps).map S).map V.str))) := upd_same
    generalize upd H' k (.frz ok (.tup (((keptP pl ps).map S).map V.str))) = H2 at SM2 hk
    refine ⟨_, rfl, _, rfl, t, _, 1, .ref b, rfl, rfl, SqT.of (SM2 _ _ ht), atI_nat (j := 1) rfl, b, rfl, ⟨_, SqT.of (SM2 _ _ hb)⟩, fun G nG => ?_⟩
    refine lc_tup (K := K) (a := b) (xs := vs) (fun i H' => Same H H' ∧ H' k = some (.frz ok (.tup (((keptP pl ps).map S).map V.str))) ∧ ∃ ws, H' G = some (.lst ws) ∧ DtAll H' ws ((keptT (keptP pl ps) (ts.take i)).map tieD)) ⟨same_new SM2 nG, by rw [upd_ne (ne_of_none hk nG)]; exact hk, [], upd_same, .nil⟩ (fun i H' _ hP => SqT.of (hP.1 _ _ hb)) (fun i v H' hi hP => ?_) (fun H' hP => ?_)
    · obtain ⟨S3, hk3, ws, hG, hW⟩ := hP
      obtain ⟨t3, p3, ht3, rfl, hp3⟩ := tie_at (DtAll.keep (TK.of S3) hA) hi
      have il := (List.getElem?_eq_some_iff.mp ht3).1
      have et : ts.take (i + 1) = ts.take i ++ [t3] := by rw [List.take_add_one, ht3]; rfl
      have wl : ws.length ≤ 1000 := by
        have := DtAll.len hW
        rw [this, List.length_map]
        unfold keptT
        have := List.length_filter_le (fun t => decide (t.1 ∈ keptP pl ps) && decide (t.2.1 ∈ keptP pl ps)) (ts.take i)
        rw [List.length_take] at this
        omega
      have no : ∀ z : (decide (t3.1 ∈ keptP pl ps) && decide (t3.2.1 ∈ keptP pl ps)) = false, keptT (keptP pl ps) (ts.take (i + 1)) = keptT (keptP pl ps) (ts.take i) := fun z => by
        rw [et]
        unfold keptT
        rw [List.filter_append, List.filter_cons_of_neg (by rw [z]; decide)]
        simp
      refine ⟨rfl, _, rfl, p3, _, 0, _, rfl, rfl, SqT.of hp3, atI_nat (j := 0) rfl, _, rfl, k, _, rfl, .inr (TupAt.sq (.inr ⟨ok, odk, hk3⟩)), rfl, flat_strs _, _, rfl, ?_⟩
      rw [inV_strs]
      by_cases c1 : t3.1 ∈ keptP pl ps
      · rw [decide_eq_true c1]
        refine iteT ?_
        refine ⟨_, rfl, p3, _, 1, _, rfl, rfl, SqT.of hp3, atI_nat (j := 1) rfl, _, rfl, k, _, rfl, .inr (TupAt.sq (.inr ⟨ok, odk, hk3⟩)), rfl, flat_strs _, _, rfl, ?_⟩
        rw [inV_strs]
        by_cases c2 : t3.2.1 ∈ keptP pl ps
        · rw [decide_eq_true c2]
          refine iteT ⟨_, rfl, _, hG, sz_lt (by omega), same_put S3 (SM2.free nG), by rw [upd_ne (ne_of hk3 hG (by intro z; cases z))]; exact hk3, ws ++ [.ref p3], upd_same, ?_⟩
          have tk := TK.mut (o := .lst (ws ++ [.ref p3])) hG
          rw [et]
          unfold keptT at *
          rw [List.filter_append, List.filter_cons_of_pos (by simp [c1, c2]), List.map_append]
          exact DtAll.app (DtAll.keep tk hW) (.cons (.tup (tk.tup _ _ hp3) (.cons (.str _) (.cons (.str _) (.cons (.int _) .nil)))) .nil)
        · rw [decide_eq_false c2]
          refine iteF ⟨S3, hk3, ws, hG, ?_⟩
          rw [no (by simp [c2])]
          exact hW
      · rw [decide_eq_false c1]
        refine iteF (iteF ⟨S3, hk3, ws, hG, ?_⟩)
        rw [no (by simp [c1])]
        exact hW
    · obtain ⟨S3, hk3, ws, hG, hW⟩ := hP
      rw [List.take_of_length_le (by omega)] at hW
      refine .inl ⟨G, _, rfl, SqL.of hG, fun q2 nq2 => ⟨(by show 2 ≤ sizeLine; decide), fun r nr => ?_⟩⟩
      have tk2 : TK H' (upd (upd H' q2 (.tup ws)) r (.tup [.ref k, .ref q2])) := (TK.new nq2).trans (TK.new nr)
      have tk3 : TK (upd H' q2 (.tup ws)) (upd (upd H' q2 (.tup ws)) r (.tup [.ref k, .ref q2])) := TK.new nr
      have S4 := same_new (o := .tup ws) S3 nq2
      exact q _ r (same_new S4 nr) (S4.free nr) (.tup upd_same (.cons (.tupZ rfl kne odk (tk2.frz _ _ _ hk3)) (.cons (.tup (tk3.tup _ _ upd_same) (DtAll.keep tk2 hW)) .nil))) ⟨r, k, q2, ok, rfl, upd_same, odk, tk2.frz _ _ _ hk3⟩
end
def rem (ts : List Tie) (x : Nm) : List Tie := ts.filter fun t => !decide (t.1 = x) && !decide (t.2.1 = x)
theorem deg_app (x : Nm) (ts us : List Tie) : deg (ts ++ us) x = deg ts x + deg us x := by
  unfold deg
  rw [List.map_append, List.map_append, List.countP_append, List.countP_append]
  omega
theorem deg_perm {x : Nm} {ts us : List Tie} (p : ts.Perm us) : deg ts x = deg us x := by
  unfold deg
  rw [(p.map (·.1)).countP_eq, (p.map (·.2.1)).countP_eq]
theorem deg_zero {x : Nm} {ts : List Tie} (h : ∀ e ∈ ts, e.1 ≠ x ∧ e.2.1 ≠ x) : deg ts x = 0 := by
  unfold deg
  rw [List.countP_eq_zero.mpr, List.countP_eq_zero.mpr]
  · intro a ha
    obtain ⟨e, he, rfl⟩ := List.mem_map.mp ha
    simp [(h e he).2]
  · intro a ha
    obtain ⟨e, he, rfl⟩ := List.mem_map.mp ha
    simp [(h e he).1]
theorem deg_one (e : Tie) (x : Nm) : deg [e] x = (if e.1 = x then 1 else 0) + (if e.2.1 = x then 1 else 0) := by
  unfold deg
  simp [List.countP_cons]
theorem deg_e {a b x : Nm} {k : Int} {e : Tie} (he : e = (a, b, k) ∨ e = (b, a, k)) : deg [e] x = (if a = x then 1 else 0) + (if b = x then 1 else 0) := by
  rw [deg_one]
  rcases he with e | e <;> subst e <;> simp
  omega
theorem rem_app (x : Nm) (ts us : List Tie) : rem (ts ++ us) x = rem ts x ++ rem us x := List.filter_append ..
theorem rem_all {x : Nm} {ts : List Tie} (h : ∀ e ∈ ts, e.1 ≠ x ∧ e.2.1 ≠ x) : rem ts x = ts := List.filter_eq_self.mpr fun e he => by simp [h e he]
theorem but_all {x : Nm} {pl : List Nm} (h : x ∉ pl) : but pl x = pl := List.filter_eq_self.mpr fun y hy => by
  have : y ≠ x := fun e => h (e ▸ hy)
  simp [this]
theorem but_app (x : Nm) (pl ql : List Nm) : but (pl ++ ql) x = but pl x ++ but ql x := List.filter_append ..
theorem mem_but {pl : List Nm} {x y : Nm} : y ∈ but pl x ↔ y ∈ pl ∧ y ≠ x := by
  unfold but
  rw [List.mem_filter]
  simp
theorem Grown.no_b {os : List Nm} {es : List Tie} (g : Grown os es) {b : Nm} (hb : b ∉ os) : ∀ e ∈ es, e.1 ≠ b ∧ e.2.1 ≠ b := fun e he => by
  obtain ⟨h1, h2, _⟩ := g.ties e he
  exact ⟨fun z => hb (z ▸ h1), fun z => hb (z ▸ h2)⟩
theorem Grown.deg0 {os : List Nm} {es : List Tie} (g : Grown os es) : ∀ {x : Nm}, x ∈ os → deg es x = 0 → os = [x] ∧ es = [] := by
  induction g with
  | one a => intro x hx _; rw [List.mem_singleton.mp hx]; exact ⟨rfl, rfl⟩
  | @leaf os es a b k e g ha hb he k1 k2 ih =>
    intro x hx hd
    rw [deg_app, deg_e he] at hd
    by_cases eb : b = x
    · rw [if_pos eb] at hd
      omega
    · have hx' : x ∈ os := by
        rcases List.mem_append.mp hx with z | z
        · exact z
        · exact absurd (List.mem_singleton.mp z).symm eb
      obtain ⟨h1, h2⟩ := ih hx' (by omega)
      rw [h1] at ha
      rw [if_pos (List.mem_singleton.mp ha)] at hd
      omega
theorem Grown.less {os : List Nm} {es : List Tie} (g : Grown os es) : ∀ {x : Nm}, x ∈ os → deg es x = 1 → IsTree (but os x) (rem es x) := by
  induction g with
  | one a => intro x _ hd; cases hd
  | @leaf os es a b k e g ha hb he k1 k2 ih =>
    intro x hx hd
    have ab : a ≠ b := fun z => hb (z ▸ ha)
    have nb := g.no_b hb
    rw [deg_app, deg_e he] at hd
    rw [but_app, rem_app]
    by_cases eb : b = x
    · subst eb
      rw [but_all hb, rem_all nb]
      have e1 : but [b] b = [] := by simp [but]
      have e2 : rem [e] b = [] := by
        rcases he with z | z <;> subst z <;> simp [rem]
      rw [e1, e2, List.append_nil, List.append_nil]
      exact ⟨os, es, g, .refl _, .refl _⟩
    · have hx' : x ∈ os := by
        rcases List.mem_append.mp hx with z | z
        · exact z
        · exact absurd (List.mem_singleton.mp z).symm eb
      rw [if_neg eb] at hd
      have e1 : but [b] x = [b] := by simp [but, eb]
      rw [e1]
      by_cases ea : a = x
      · subst ea
        rw [if_pos rfl] at hd
        obtain ⟨h1, h2⟩ := g.deg0 hx' (by omega)
        have e2 : rem [e] a = [] := by
          rcases he with z | z <;> subst z <;> simp [rem]
        have e3 : but [a] a = [] := by simp [but]
        rw [h1, h2, e2, e3]
        exact ⟨[b], [], .one b, .refl _, .refl _⟩
      · rw [if_neg ea] at hd
        obtain ⟨os', es', g', p1, p2⟩ := ih hx' (by omega)
        have e2 : rem [e] x = [e] := by
          rcases he with z | z <;> subst z <;> simp [rem, ea, eb]
        rw [e2]
        refine ⟨os' ++ [b], es' ++ [e], Grown.leaf (a := a) (k := k) g' (p1.mem_iff.mp (mem_but.mpr ⟨ha, ea⟩)) (fun z => hb (mem_but.mp (p1.mem_iff.mpr z)).1) he k1 k2, p1.append_right _, p2.append_right _⟩
theorem IsTree.less {pl : List Nm} {ts : List Tie} (h : IsTree pl ts) {x : Nm} (hx : x ∈ pl) (hd : deg ts x = 1) : IsTree (but pl x) (rem ts x) := by
  obtain ⟨os, es, g, p, q⟩ := h
  obtain ⟨os', es', g', p', q'⟩ := g.less (p.mem_iff.mp hx) (by rw [← deg_perm q]; exact hd)
  exact ⟨os', es', g', (p.filter _).trans p', (q.filter _).trans q'⟩
theorem Grown.leaf_in {os : List Nm} {es : List Tie} (g : Grown os es) (h : 2 ≤ os.length) : ∃ x ∈ os, deg es x = 1 := by
  cases g with
  | one a => simp at h
  | @leaf os es a b k e g ha hb he k1 k2 =>
    refine ⟨b, by simp, ?_⟩
    have ab : ¬ a = b := fun z => hb (z ▸ ha)
    rw [deg_app, deg_e he, deg_zero (g.no_b hb), if_neg ab, if_pos rfl]
theorem IsTree.leaf_in {pl : List Nm} {ts : List Tie} (h : IsTree pl ts) (l : 2 ≤ pl.length) : leavesOf pl ts ≠ [] := by
  obtain ⟨os, es, g, p, q⟩ := h
  obtain ⟨x, hx, hd⟩ := g.leaf_in (by rw [← p.length_eq]; exact l)
  intro z
  have : x ∈ leavesOf pl ts := List.mem_filter.mpr ⟨p.mem_iff.mpr hx, decide_eq_true (by rw [deg_perm q]; exact hd)⟩
  rw [z] at this
  cases this
theorem mem_leaves {pl : List Nm} {ts : List Tie} {x : Nm} (h : x ∈ leavesOf pl ts) : x ∈ pl ∧ deg ts x = 1 := ⟨(List.mem_filter.mp h).1, of_decide_eq_true (List.mem_filter.mp h).2⟩
end Far

namespace Far
open PySem PySem.Spec PyProof.Rows L2
open C8 (pss_cut tCut)
open SX (S)
/-! ### a tree less its leaves -/
abbrev Tr2 : Type := List Nm × List Tie
def treeP (T : Tr2) : PyData := treeD T.1 T.2
def butL (pl ls : List Nm) : List Nm := pl.filter fun x => !decide (x ∈ ls)
def remL (ts : List Tie) (ls : List Nm) : List Tie := ts.filter fun t => !decide (t.1 ∈ ls) && !decide (t.2.1 ∈ ls)
def wi (T : Tr2) : Tr2 := if T.1.length ≤ 2 then T else (butL T.1 (leavesOf T.1 T.2), remL T.2 (leavesOf T.1 T.2))
theorem butL_cons (pl ls : List Nm) (l : Nm) : butL pl (l :: ls) = but (butL pl ls) l := by
  unfold butL but
  rw [List.filter_filter]
  congr 1
  funext x
  by_cases a : x = l <;> by_cases b : x ∈ ls <;> simp [a, b]
theorem remL_cons (ts : List Tie) (ls : List Nm) (l : Nm) : remL ts (l :: ls) = rem (remL ts ls) l := by
  unfold remL rem
  rw [List.filter_filter]
  congr 1
  funext t
  by_cases a : t.1 = l <;> by_cases b : t.1 ∈ ls <;> by_cases c : t.2.1 = l <;> by_cases d : t.2.1 ∈ ls <;> simp [a, b, c, d]
theorem deg_filter {ts : List Tie} {x : Nm} {p : Tie → Bool} (h : ∀ t ∈ ts, t.1 = x ∨ t.2.1 = x → p t = true) : deg (ts.filter p) x = deg ts x := by
  induction ts with
  | nil => rfl
  | cons t r ih =>
    have ih := ih fun u hu => h u (List.mem_cons_of_mem _ hu)
    have e : deg (t :: r) x = deg [t] x + deg r x := deg_app x [t] r
    cases c : p t with
    | true =>
      rw [List.filter_cons_of_pos c]
      have e2 : deg (t :: r.filter p) x = deg [t] x + deg (r.filter p) x := deg_app x [t] _
      omega
    | false =>
      rw [List.filter_cons_of_neg (by rw [c]; decide), ih, e]
      have z : deg [t] x = 0 := by
        rw [deg_one]
        have n : ¬ (t.1 = x ∨ t.2.1 = x) := fun w => by
          have := h t List.mem_cons_self w
          rw [c] at this
          cases this
        rw [if_neg fun w => n (.inl w), if_neg fun w => n (.inr w)]
      omega
theorem Grown.ends_ne {os : List Nm} {es : List Tie} (g : Grown os es) : ∀ e ∈ es, e.1 ≠ e.2.1 := by
  induction g with
  | one a => intro e he; cases he
  | @leaf os es a b k e g ha hb he k1 k2 ih =>
    intro u hu
    rcases List.mem_append.mp hu with w | w
    · exact ih u w
    · rw [List.mem_singleton.mp w]
      have ab : a ≠ b := fun z => hb (z ▸ ha)
      rcases he with rfl | rfl
      · exact ab
      · exact ab.symm
theorem IsTree.ends_ne {pl : List Nm} {ts : List Tie} (h : IsTree pl ts) : ∀ e ∈ ts, e.1 ≠ e.2.1 := by
  obtain ⟨os, es, g, p, q⟩ := h
  exact fun e he => g.ends_ne e (q.mem_iff.mp he)
theorem but_len {x : Nm} : ∀ {pl : List Nm}, pl.Nodup → pl.length ≤ (but pl x).length + 1
  | [], _ => by simp
  | y :: r, nd => by
    obtain ⟨n1, n2⟩ := List.nodup_cons.mp nd
    by_cases e : y = x
    · have : but (y :: r) x = r := by
        unfold but
        rw [List.filter_cons_of_neg (by simp [e]), List.filter_eq_self.mpr]
        intro z hz
        have : z ≠ x := fun w => n1 (by rw [e, ← w]; exact hz)
        simp [this]
      rw [this]
      simp
    · have : but (y :: r) x = y :: but r x := by
        unfold but
        rw [List.filter_cons_of_pos (by simp [e])]
      have := but_len (x := x) n2
      simp only [*, List.length_cons]
      omega
/-- two leaves side by side: that is all -/
theorem IsTree.leaves_apart {pl : List Nm} {ts : List Tie} (h : IsTree pl ts) (l : 3 ≤ pl.length) {t : Tie} (ht : t ∈ ts) (h1 : deg ts t.1 = 1) (h2 : deg ts t.2.1 = 1) : False := by
  obtain ⟨m1, m2, _⟩ := h.ties t ht
  have L := h.less m1 h1
  have ne : t.1 ≠ t.2.1 := h.ends_ne t ht
  have d0 : deg (rem ts t.1) t.2.1 = 0 := by
    obtain ⟨a, b, e⟩ := List.append_of_mem ht
    have e1 : deg ts t.2.1 = deg a t.2.1 + (deg [t] t.2.1 + deg b t.2.1) := by
      rw [e, deg_app, show t :: b = [t] ++ b from rfl, deg_app]
    have e2 : deg [t] t.2.1 = 1 := by
      rw [deg_one, if_neg ne, if_pos rfl]
    have e3 : deg (rem ts t.1) t.2.1 = deg (rem a t.1) t.2.1 + (deg (rem [t] t.1) t.2.1 + deg (rem b t.1) t.2.1) := by
      rw [e, rem_app, show t :: b = [t] ++ b from rfl, rem_app, deg_app, deg_app]
    have e4 : rem [t] t.1 = [] := by simp [rem]
    have e5 : deg ([] : List Tie) t.2.1 = 0 := rfl
    have le : ∀ us : List Tie, deg (rem us t.1) t.2.1 ≤ deg us t.2.1 := by
      intro us
      unfold deg rem
      exact Nat.add_le_add ((List.filter_sublist.map _).countP_le) ((List.filter_sublist.map _).countP_le)
    have := le a
    have := le b
    rw [e4, e5] at e3
    omega
  obtain ⟨os, es, g, p, q⟩ := L
  have := g.deg0 (p.mem_iff.mp (mem_but.mpr ⟨m2, ne.symm⟩)) (by rw [← deg_perm q]; exact d0)
  have l1 : (but pl t.1).length = 1 := by rw [p.length_eq, this.1]; rfl
  have l2 : pl.length ≤ (but pl t.1).length + 1 := but_len h.nodup
  omega
theorem IsTree.peelL {pl : List Nm} {ts : List Tie} (h : IsTree pl ts) (l : 3 ≤ pl.length) : ∀ ls : List Nm, ls.Nodup → (∀ x ∈ ls, x ∈ pl ∧ deg ts x = 1) → IsTree (butL pl ls) (remL ts ls)
  | [], _, _ => by
    have e1 : butL pl [] = pl := List.filter_eq_self.mpr fun x _ => by simp
    have e2 : remL ts [] = ts := List.filter_eq_self.mpr fun x _ => by simp
    rw [e1, e2]
    exact h
  | x :: ls, nd, hl => by
    obtain ⟨n1, n2⟩ := List.nodup_cons.mp nd
    have ih := h.peelL l ls n2 fun y hy => hl y (List.mem_cons_of_mem _ hy)
    obtain ⟨mx, dx⟩ := hl x List.mem_cons_self
    rw [butL_cons, remL_cons]
    refine ih.less (List.mem_filter.mpr ⟨mx, by simp [n1]⟩) ?_
    unfold remL
    rw [deg_filter, dx]
    intro t ht hx
    have : ∀ y, (y = t.1 ∨ y = t.2.1) → y ∉ ls := by
      intro y hy my
      have dy := (hl y (List.mem_cons_of_mem _ my)).2
      have nxy : y ≠ x := fun z => n1 (z ▸ my)
      rcases hy with rfl | rfl
      · rcases hx with w | w
        · exact nxy w
        · exact h.leaves_apart l ht dy (by rw [w]; exact dx)
      · rcases hx with w | w
        · exact h.leaves_apart l ht (by rw [w]; exact dx) dy
        · exact nxy w
    simp [this _ (.inl rfl), this _ (.inr rfl)]
theorem IsTree.wi {T : Tr2} (h : IsTree T.1 T.2) : IsTree (wi T).1 (wi T).2 := by
  unfold Far.wi
  by_cases c : T.1.length ≤ 2
  · rw [if_pos c]
    exact h
  · rw [if_neg c]
    exact h.peelL (by omega) _ (h.nodup.filter _) fun x hx => mem_leaves hx
theorem wi_less {T : Tr2} (h : IsTree T.1 T.2) (c : 2 < T.1.length) : (wi T).1.length < T.1.length := by
  unfold wi
  rw [if_neg (by omega)]
  obtain ⟨x, hx⟩ := List.exists_mem_of_ne_nil _ (h.leaf_in (by omega))
  show (butL T.1 (leavesOf T.1 T.2)).length < _
  unfold butL
  refine List.length_filter_lt_length_iff_exists.mpr ⟨x, (mem_leaves hx).1, ?_⟩
  simp [hx]
theorem wi_sub (T : Tr2) : (∀ x ∈ (wi T).1, x ∈ T.1) ∧ (wi T).1.length ≤ T.1.length ∧ (wi T).2.length ≤ T.2.length := by
  unfold wi
  by_cases c : T.1.length ≤ 2
  · rw [if_pos c]
    exact ⟨fun _ h => h, Nat.le_refl _, Nat.le_refl _⟩
  · rw [if_neg c]
    exact ⟨fun x hx => (List.mem_filter.mp hx).1, List.length_filter_le .., List.length_filter_le ..⟩
/-- what is left of a tree, leaves taken off again and again -/
inductive Peel : Tr2 → List Tr2 → Prop
  | one {T : Tr2} : T.1.length ≤ 2 → Peel T [T]
  | cons {T : Tr2} {L : List Tr2} : 2 < T.1.length → Peel (wi T) L → Peel T (T :: L)
theorem Peel.det {T : Tr2} {L M : List Tr2} (h : Peel T L) (h' : Peel T M) : L = M := by
  induction h generalizing M with
  | one c => cases h' with
    | one => rfl
    | cons d => omega
  | cons c p ih => cases h' with
    | one => omega
    | cons d q => rw [ih q]
/-- so far: L is behind, X next -/
def PeelAt (T : Tr2) (L : List Tr2) (X : Tr2) : Prop := IsTree X.1 X.2 ∧ L.length + X.1.length ≤ T.1.length ∧ X.2.length ≤ T.2.length ∧ (∀ x ∈ X.1, x ∈ T.1) ∧ (∀ Y ∈ L, IsTree Y.1 Y.2 ∧ (∀ x ∈ Y.1, x ∈ T.1)) ∧ ∀ R, Peel X R → Peel T (L ++ R)
theorem PeelAt.start {T : Tr2} (h : IsTree T.1 T.2) : PeelAt T [] T := ⟨h, by simp, Nat.le_refl _, fun _ h => h, (fun _ h => by cases h), fun _ h => h⟩
theorem PeelAt.step {T X : Tr2} {L : List Tr2} (h : PeelAt T L X) (c : 2 < X.1.length) : PeelAt T (L ++ [X]) (wi X) := by
  obtain ⟨h1, h2, h3, h4, h5, h6⟩ := h
  obtain ⟨s1, s2, s3⟩ := wi_sub X
  have := wi_less h1 c
  refine ⟨h1.wi, by simp; omega, by omega, fun x hx => h4 x (s1 x hx), fun Y hY => ?_, fun R r => ?_⟩
  · rcases List.mem_append.mp hY with w | w
    · exact h5 Y w
    · rw [List.mem_singleton.mp w]
      exact ⟨h1, h4⟩
  · rw [List.append_assoc]
    exact h6 _ (.cons c r)
theorem keptP_lv (pl : List Nm) (ls : List Nm) : keptP pl (butL pl ls) = butL pl ls := by
  unfold keptP butL
  refine List.filter_congr fun x hx => ?_
  by_cases c : x ∈ ls
  · simp [c]
  · simp [c, hx]
theorem keptT_lv {pl : List Nm} {ts : List Tie} (h : ∀ e ∈ ts, e.1 ∈ pl ∧ e.2.1 ∈ pl) (ls : List Nm) : keptT (butL pl ls) ts = remL ts ls := by
  unfold keptT remL butL
  refine List.filter_congr fun t ht => ?_
  obtain ⟨a, b⟩ := h t ht
  by_cases c : t.1 ∈ ls <;> by_cases d : t.2.1 ∈ ls <;> simp [a, b, c, d]
abbrev s_without_leaves : Stmt := topS 45
abbrev N_without_leaves : List Str := ["tree", "leaves", "place"]
theorem sc_without_leaves : FnScope N_without_leaves ["tree"] (defScope s_without_leaves) := ⟨rfl, rfl, rfl, by decide +kernel, rfl, by decide +kernel, by decide +kernel⟩
abbrev s_peeled : Stmt := topS 46
abbrev N_peeled : List Str := ["tree", "told"]
theorem sc_peeled : FnScope N_peeled ["tree"] (defScope s_peeled) := ⟨rfl, rfl, rfl, by decide +kernel, rfl, by decide +kernel, by decide +kernel⟩
section
variable {P : Program} {w : World} {K : PySem.W.Frag} {mg : Str → Option Value} {base : Heap}
structure TxtL (mg : Str → Option Value) : Prop where
  len : mg "len" = none
def spWithout : Sp := fun vs H Q _ => ∃ (v : V) (pl : List Nm) (ts : List Tie), vs = [v] ∧ Dt H v (treeD pl ts) ∧ IsTree pl ts ∧ pl.length ≤ 1000 ∧ ∀ (H' : Hp) (r : V), Same H H' → Dt H' r (treeP (wi (pl, ts))) → (PlZ H v pl → PlZ H' r (wi (pl, ts)).1) → Q r H'
theorem ok_without_leaves {f : Addr} {fd : FuncData} (F : Fun K "without_leaves" "without_leaves" s_without_leaves f fd) (T : TxtL mg) (Cleaves_of : Cal P w K mg base 1 "leaves_of" spLeaves) (Cpart_of : Cal P w K mg base 1 "part_of" spPart) : FnOk P w K mg base CX0 2 f fd ["tree"] spWithout := by
  refine F.ok sc_without_leaves (fun vs H Q E h => ?_) (fun cdv A outer s H vs Q E hr h => ?_)
  · obtain ⟨v, pl, ts, rfl, _⟩ := h
    rfl
  · obtain ⟨v, pl, ts, rfl, hd, htr, hl, q⟩ := h
    obtain ⟨t, a, b, vs, rfl, ht, ha, hb, hA⟩ := dt_tree hd
    have tl := htr.len
    refine ⟨_, (pss_cut (ps_if (pt_cmpR op_le (pe_callB call_len_seq (by rfl) T.len bt_len (pa_cons (pe_ix ix_tup (pv 0) pe_int (fun _ _ => rfl)) pa_nil)) pe_int (nomark _))
        (pss_one (ps_ret (pv 0)))
        pss_nil)
      (pss_cons (ps_set (i := 1) sc_without_leaves.nd rfl (.inr rfl) (pe_c Cleaves_of hr (by decide) rfl (pa_cons (pv 0) pa_nil)))
      (pss_one (ps_ret (pe_c Cpart_of hr (by decide) rfl (pa_cons (pv 0) (pa_cons (pe_lc (own := [("place", 2)]) (g := gName 2)  rfl sc_without_leaves.nd (pi_tup (pe_ix ix_tup (pv 0) pe_int (fun _ _ => rfl))) (blkOk_by (N := N_without_leaves) (sc := defScope s_without_leaves) (by decide +kernel)) (fun _ _ _ _ _ => pg_name (i := 2) sc_without_leaves.nd rfl (Or.inl rfl)) (fun _ _ _ _ _ => pts_one (pt_cmpR (notInK (K := K)) (pv 2) (pv 1) rfl)) (fun _ _ _ _ _ => (pv 2))) pa_nil))))))), ?_⟩
    refine ⟨fun σ' H' => σ' = [some (.ref t), none, none] ∧ H' = H ∧ 2 < pl.length, ?_, fun σ' H' hM => ?_⟩
    · refine ⟨_, rfl, t, _, 0, .ref a, rfl, rfl, SqT.of ht, atI_nat (j := 0) rfl, a, _, rfl, .inr ha.sq, _, _, rfl, rfl, _, rfl, ?_⟩
      rw [List.length_map, List.length_map]
      by_cases c : pl.length ≤ 2
      · rw [decide_eq_true (show ((pl.length : Nat) : Int) ≤ 2 by omega)]
        have e : wi (pl, ts) = (pl, ts) := if_pos c
        refine iteT ⟨_, rfl, q H _ (Same.refl H) ?_ ?_⟩
        · rw [e]
          exact hd
        · rw [e]
          exact fun z => z
      · rw [decide_eq_false (show ¬ ((pl.length : Nat) : Int) ≤ 2 by omega)]
        exact iteF ⟨rfl, rfl, by omega⟩
    · obtain ⟨rfl, rfl, lt⟩ := hM
      refine ⟨_, rfl, _, pl, ts, rfl, hd, hl, by omega, fun H1 g s1 ng hg => ?_⟩
      refine ⟨_, rfl, _, rfl, t, _, 0, .ref a, rfl, rfl, SqT.of (s1 _ _ ht), atI_nat (j := 0) rfl, a, rfl, ⟨_, (ha.same s1).sq⟩, fun D nD => ?_⟩
      have gl : (leavesOf pl ts).length ≤ 1000 := Nat.le_trans (List.length_filter_le ..) hl
      have e : wi (pl, ts) = (butL pl (leavesOf pl ts), remL ts (leavesOf pl ts)) := if_neg (show ¬ pl.length ≤ 2 by omega)
      have bne : butL pl (leavesOf pl ts) ≠ [] := fun z => by
        have h2 := (IsTree.wi (T := (pl, ts)) htr).len
        rw [e] at h2
        rw [show (butL pl (leavesOf pl ts), remL ts (leavesOf pl ts)).1 = butL pl (leavesOf pl ts) from rfl, z] at h2
        simp at h2
      refine lc_tup (K := K) (a := a) (xs := (pl.map S).map V.str) (fun i H'' => Same H' H'' ∧ H'' g = some (.tup (((leavesOf pl ts).map S).map V.str)) ∧ H'' D = some (.lst (((butL (pl.take i) (leavesOf pl ts)).map S).map V.str))) ⟨same_new s1 nD, by rw [upd_ne (ne_of_none hg nD)]; exact hg, upd_same⟩ (fun i H'' _ hP => (ha.same hP.1).sq) (fun i v H'' hi hP => ?_) (fun H'' hP => ?_)
      · obtain ⟨S2, hg2, hD⟩ := hP
        obtain ⟨x, hx, mx, rfl, ex⟩ := at_name hi
        have il := (List.getElem?_eq_some_iff.mp hx).1
        refine ⟨rfl, _, rfl, _, rfl, g, _, rfl, .inr (SqT.of hg2), rfl, flat_strs _, _, rfl, ?_⟩
        rw [inV_strs]
        have bl : (butL (pl.take i) (leavesOf pl ts)).length ≤ 1000 := by
          have := List.length_filter_le (fun x => !decide (x ∈ leavesOf pl ts)) (pl.take i)
          rw [List.length_take] at this
          unfold butL
          omega
        by_cases c : x ∈ leavesOf pl ts
        · rw [decide_eq_true c]
          refine iteF ⟨S2, hg2, ?_⟩
          rw [ex]
          unfold butL at *
          rw [List.filter_append, List.filter_cons_of_neg (by simp [c])]
          simpa using hD
        · rw [decide_eq_false c]
          refine iteT ⟨_, rfl, _, hD, by rw [List.length_map, List.length_map]; exact sz_lt (by omega), same_put S2 (s1.free nD), by rw [upd_ne (ne_of_none hg nD)]; exact hg2, ?_⟩
          rw [upd_same, ex]
          unfold butL
          rw [List.filter_append, List.filter_cons_of_pos (by simp [c]), List.map_append, List.map_append]
          rfl
      · obtain ⟨S2, hg2, hD⟩ := hP
        rw [List.length_map, List.length_map, List.take_length] at hD
        refine ⟨_, D, pl, _, ts, rfl, hd.keep (TK.of S2), hD, hl, by omega, ?_, fun H3 r s3 nr hr3 hz3 => q H3 _ (S2.trans s3) ?_ fun _ => ?_⟩
        · rw [keptP_lv]
          exact bne
        · rw [keptP_lv, keptT_lv (fun e he => ⟨(htr.ties e he).1, (htr.ties e he).2.1⟩)] at hr3
          rw [e]
          exact hr3
        · rw [keptP_lv] at hz3
          rw [e]
          exact hz3
/-- trees told one after another -/
def spPeeled : Sp := fun vs H Q _ => ∃ (v : V) (pl : List Nm) (ts : List Tie), vs = [v] ∧ Dt H v (treeD pl ts) ∧ IsTree pl ts ∧ pl.length ≤ 1000 ∧ ∀ (H' : Hp) (r : Addr) (us : List V) (L : List Tr2), Same H H' → H r = none → H' r = some (.lst us) → DtAll H' us (L.map treeP) → Peel (pl, ts) L → L.length ≤ 1000 → (∀ Y ∈ L, IsTree Y.1 Y.2 ∧ ∀ x ∈ Y.1, x ∈ pl) → Q (.ref r) H'
theorem dt_snoc {H : Hp} {us : List V} {L : List Tr2} {X : Tr2} (h : DtAll H us ((L ++ [X]).map treeP)) : ∃ (us' : List V) (v : V), us = us' ++ [v] ∧ Dt H v (treeP X) := by
  have l := DtAll.len h
  rw [List.length_map, List.length_append, List.length_singleton] at l
  have hv : us[L.length]? = some (us[L.length]'(by omega)) := by simp
  obtain ⟨d, hd, hv2⟩ := DtAll.get h hv
  rw [List.getElem?_map, List.getElem?_append_right (Nat.le_refl _)] at hd
  simp at hd
  subst hd
  refine ⟨us.take L.length, _, ?_, hv2⟩
  have e : us.take (L.length + 1) = us := List.take_of_length_le (by omega)
  have e2 : us.take (L.length + 1) = us.take L.length ++ [us[L.length]'(by omega)] := by
    rw [List.take_add_one, hv]
    rfl
  exact e.symm.trans e2
theorem ok_peeled {f : Addr} {fd : FuncData} (F : Fun K "peeled" "peeled" s_peeled f fd) (T : TxtL mg) (Cwithout_leaves : Cal P w K mg base 2 "without_leaves" spWithout) : FnOk P w K mg base CX0 3 f fd ["tree"] spPeeled := by
  refine F.ok sc_peeled (fun vs H Q E h => ?_) (fun cdv A outer s H vs Q E hr h => ?_)
  · obtain ⟨v, pl, ts, rfl, _⟩ := h
    rfl
  · obtain ⟨v, pl, ts, rfl, hd, htr, hl, q⟩ := h
    refine ⟨_, (pss_cons (ps_set (i := 1) sc_peeled.nd rfl (.inl rfl) (pe_lst (pa_cons (pv 0) pa_nil)))
      (pss_cut (ps_while PassesOwn.never (pt_cmpR op_gt (pe_callB call_len_seq (by rfl) T.len bt_len (pa_cons (pe_ix ix_tup (pe_ix ix_list (pv 1) (pe_un un_neg pe_int) (fun _ _ => rfl)) pe_int (fun _ _ => rfl)) pa_nil)) pe_int (nomark _))
        (pss_one (ps_expr (pe_bm PySem.F.plainAttrs_list PySem.F.slot_list_append PySem.F.type_list_append mt_append (pv 1) (pa_cons (pe_c Cwithout_leaves hr (by decide) rfl (pa_cons (pe_ix ix_list (pv 1) (pe_un un_neg pe_int) (fun _ _ => rfl)) pa_nil)) pa_nil)))))
      (pss_one (ps_ret (pv 1))))), ?_⟩
    refine ⟨_, rfl, by show 1 ≤ sizeLine; rw [sizeLine_eq]; decide, fun a na => ?_⟩
    have nd0 := htr.nodup
    refine ⟨fun σ' H' => σ' = [some v, some (.ref a)] ∧ ∃ (us : List V) (L : List Tr2) (X : Tr2), Same H H' ∧ H' a = some (.lst us) ∧ DtAll H' us ((L ++ [X]).map treeP) ∧ PeelAt (pl, ts) L X ∧ X.1.length ≤ 2, ?_, fun σ' H' hM => ?_⟩
    · refine ⟨fun m σ H' => σ = [some v, some (.ref a)] ∧ ∃ (us : List V) (L : List Tr2) (X : Tr2), Same H H' ∧ H' a = some (.lst us) ∧ DtAll H' us ((L ++ [X]).map treeP) ∧ PeelAt (pl, ts) L X ∧ m = X.1.length, ⟨pl.length, ?_⟩, ?_⟩
      · have tk := TK.new (o := .lst [v]) na
        exact ⟨rfl, [v], [], (pl, ts), same_new (Same.refl H) na, upd_same, .cons (hd.keep tk) .nil, .start htr, rfl⟩
      · rintro m σ' H' ⟨rfl, us, L, X, S1, ha, hA, hP, rfl⟩
        obtain ⟨us', x, rfl, hx⟩ := dt_snoc hA
        obtain ⟨t, p, b, vs, rfl, ht, hp, hb, hB⟩ := dt_tree hx
        refine ⟨_, rfl, 1, rfl, a, _, -1, .ref t, rfl, rfl, SqL.of ha, atI_last _ _, t, _, 0, .ref p, rfl, rfl, SqT.of ht, atI_nat (j := 0) rfl, p, _, rfl, .inr hp.sq, _, _, rfl, rfl, _, rfl, ?_⟩
        rw [List.length_map, List.length_map]
        have ul : us'.length = L.length := by
          have := DtAll.len hA
          rw [List.length_append, List.length_map, List.length_append] at this
          simpa using this
        have Ll : L.length + X.1.length ≤ 1000 := Nat.le_trans hP.2.1 hl
        by_cases c : X.1.length ≤ 2
        · rw [decide_eq_false (show ¬ (2 : Int) < ((X.1.length : Nat) : Int) by omega)]
          exact iteF ⟨rfl, _, L, X, S1, ha, hA, hP, c⟩
        · rw [decide_eq_true (show (2 : Int) < ((X.1.length : Nat) : Int) by omega)]
          refine iteT ⟨fun σ' H'' => ∃ (us2 : List V), σ' = [some v, some (.ref a)] ∧ Same H H'' ∧ H'' a = some (.lst us2) ∧ DtAll H'' us2 (((L ++ [X]) ++ [wi X]).map treeP), ?_, ?_⟩
          · rintro σ' H'' ⟨us2, e, S2, ha2, hA2⟩
            exact ⟨_, wi_less hP.1 (by omega), e, us2, L ++ [X], wi X, S2, ha2, hA2, hP.step (by omega), rfl⟩
          · refine ⟨_, rfl, .inl ⟨rfl, _, SqL.of ha⟩, _, rfl, 1, rfl, a, _, -1, .ref t, rfl, rfl, SqL.of ha, atI_last _ _, _, X.1, X.2, rfl, hx, hP.1, by omega, fun H2 r s2 hr2 _ => ?_⟩
            have ha2 := s2 _ _ ha
            have tk := TK.mut (o := .lst (us' ++ [.ref t] ++ [r])) ha2
            refine ⟨a, _, _, rfl, rfl, ha2, by rw [List.length_append, List.length_singleton]; exact sz_lt (by omega), us' ++ [.ref t] ++ [r], rfl, same_put (S1.trans s2) na, upd_same, ?_⟩
            rw [List.map_append]
            exact DtAll.app (DtAll.keep ((TK.of s2).trans tk) hA) (.cons (hr2.keep tk) .nil)
    · obtain ⟨rfl, us, L, X, S1, ha, hA, ⟨p1, p2, p3, p4, p5, p6⟩, c⟩ := hM
      refine ⟨_, rfl, q H' a us (L ++ [X]) S1 na ha hA (p6 _ (.one c)) ?_ fun Y hY => ?_⟩
      · rw [List.length_append, List.length_singleton]
        have : 1 ≤ X.1.length := by have := p1.len; omega
        have : pl.length ≤ 1000 := hl
        show L.length + 1 ≤ 1000
        have p2 : L.length + X.1.length ≤ pl.length := p2
        omega
      · rcases List.mem_append.mp hY with w | w
        · exact p5 Y w
        · rw [List.mem_singleton.mp w]
          exact ⟨p1, p4⟩
end
end Far

namespace Far
open PySem PySem.Spec PyProof.Rows L2
open SX (S)
/-! ### the fewest places so near to all -/
/-- of two places of a way the nearer one stands on the way to the other -/
theorem IsTree.between {pl : List Nm} {ts : List Tie} (F : IsTree pl ts) {u x m l : Nm} (hu : u ∈ pl) (hx : x ∈ pl) (hm : m ∈ path ts u x) (hl : l ∈ path ts u x) (le : dist ts u m ≤ dist ts u l) : dist ts u m + dist ts m l = dist ts u l := by
  have w := F.the_way hu hx
  have pin : ∀ y ∈ path ts u x, y ∈ pl := fun y hy => w.inside (fun e he => ⟨(F.ties e he).1, (F.ties e he).2.1⟩) hu y hy
  obtain ⟨p1, p2, e⟩ := List.append_of_mem hl
  obtain ⟨L1, L2, w1, _, _⟩ := w.split e
  have e1 := F.is_way w1
  have rise := (w.rising F).1
  have hm' : m ∈ path ts u l := by
    rw [e1.1]
    rw [e] at hm
    rcases List.mem_append.mp hm with z | z
    · exact List.mem_append_left _ z
    · rcases List.mem_cons.mp z with z | z
      · exact z ▸ List.mem_append_right _ (List.mem_singleton.mpr rfl)
      · exfalso
        rw [e, List.map_append, List.map_cons] at rise
        have := (List.pairwise_cons.mp (List.pairwise_append.mp rise).2.1).1 _ (List.mem_map_of_mem z)
        omega
  exact (F.over hu (pin l hl) (pin m hm)).2.1.mpr hm'
/-- where the ways of three places meet -/
theorem IsTree.meet {pl : List Nm} {ts : List Tie} (F : IsTree pl ts) {u x y : Nm} (hu : u ∈ pl) (hx : x ∈ pl) (hy : y ∈ pl) : ∃ m ∈ path ts u x, m ∈ pl ∧ dist ts u m + dist ts m x = dist ts u x ∧ dist ts u m + dist ts m y = dist ts u y ∧ dist ts y m + dist ts m x = dist ts y x := by
  obtain ⟨_, _, m, em⟩ := F.over hu hx hy
  have hm : m ∈ (path ts u x).filter (fun z => decide (z ∈ path ts u y) && decide (z ∈ path ts y x)) := by rw [em]; exact List.mem_singleton.mpr rfl
  obtain ⟨h1, h2⟩ := List.mem_filter.mp hm
  rw [Bool.and_eq_true, decide_eq_true_eq, decide_eq_true_eq] at h2
  have mp : m ∈ pl := (F.the_way hu hx).inside (fun e he => ⟨(F.ties e he).1, (F.ties e he).2.1⟩) hu m h1
  exact ⟨m, h1, mp, (F.over hu hx mp).2.1.mpr h1, (F.over hu hy mp).2.1.mpr h2.1, (F.over hy hx mp).2.1.mpr h2.2⟩
/-- what is near to p, at most L away -/
noncomputable def nearB (ts : List Tie) (L : Int) (p t : Nm) : Bool := decide (dist ts p t ≤ L)
/-- the last place on the way from p to r that is near to p -/
noncomputable def hlp (ts : List Tie) (L : Int) (r p : Nm) : Nm := ((path ts p r).filter (nearB ts L p)).getLastD []
theorem dist_nn {pl : List Nm} {ts : List Tie} (F : IsTree pl ts) {u v : Nm} (hu : u ∈ pl) (hv : v ∈ pl) : 0 ≤ dist ts u v := by
  have h := (F.over hu hu hv).1
  rw [(F.dist_self u).1, ← (F.dist_symm hu hv).1] at h
  omega
theorem last_ofD {α : Type} {l : List α} {d : α} (h : l ≠ []) : ∃ a, l = a ++ [l.getLastD d] := by
  refine ⟨l.dropLast, ?_⟩
  have e := List.dropLast_concat_getLast h
  have e2 : l.getLastD d = l.getLast h := by
    rw [List.getLastD_eq_getLast?, List.getLast?_eq_some_getLast h]
    rfl
  rw [e2]
  exact e.symm
theorem hlp_is {pl : List Nm} {ts : List Tie} (F : IsTree pl ts) {L : Int} (hL : 0 ≤ L) {r p : Nm} (hr : r ∈ pl) (hp : p ∈ pl) :
    (∃ a, (path ts p r).filter (nearB ts L p) = a ++ [hlp ts L r p]) ∧ hlp ts L r p ∈ path ts p r ∧ hlp ts L r p ∈ pl ∧ dist ts p (hlp ts L r p) ≤ L ∧ ∀ t ∈ path ts p r, dist ts p t ≤ L → dist ts p t ≤ dist ts p (hlp ts L r p) := by
  have w := F.the_way hp hr
  have pin : ∀ y ∈ path ts p r, y ∈ pl := fun y hy => w.inside (fun e he => ⟨(F.ties e he).1, (F.ties e he).2.1⟩) hp y hy
  have rise := (w.rising F).1
  have hpm : p ∈ path ts p r := by
    have h := (F.over hp hr hp).2.1
    exact h.mp (by rw [(F.dist_self p).1]; omega)
  have ne : (path ts p r).filter (nearB ts L p) ≠ [] := List.ne_nil_of_mem (List.mem_filter.mpr ⟨hpm, by unfold nearB; rw [(F.dist_self p).1]; exact decide_eq_true hL⟩)
  obtain ⟨a, ea⟩ := last_ofD (d := []) ne
  have ea : (path ts p r).filter (nearB ts L p) = a ++ [hlp ts L r p] := ea
  have hm : hlp ts L r p ∈ (path ts p r).filter (nearB ts L p) := by rw [ea]; exact List.mem_append_right _ (List.mem_singleton.mpr rfl)
  obtain ⟨m1, m2⟩ := List.mem_filter.mp hm
  refine ⟨⟨a, ea⟩, m1, pin _ m1, of_decide_eq_true m2, fun t ht hd => ?_⟩
  have htm : t ∈ (path ts p r).filter (nearB ts L p) := List.mem_filter.mpr ⟨ht, decide_eq_true hd⟩
  have sub : (((path ts p r).filter (nearB ts L p)).map (dist ts p)).Pairwise (· < ·) := rise.sublist ((List.filter_sublist ..).map _)
  rw [ea] at htm sub
  rcases List.mem_append.mp htm with z | z
  · rw [List.map_append] at sub
    have := (List.pairwise_append.mp sub).2.2 _ (List.mem_map_of_mem z) (dist ts p (hlp ts L r p)) (List.mem_singleton.mpr rfl)
    omega
  · rw [List.mem_singleton.mp z]
    exact Int.le_refl _
/-- who is near to p, the farthest from r, and to q, has the place of p's helper near to q -/
theorem helper_near {pl : List Nm} {ts : List Tie} (F : IsTree pl ts) {L : Int} (hL : 0 ≤ L) {r p q v : Nm} (hr : r ∈ pl) (hp : p ∈ pl) (hq : q ∈ pl) (hv : v ∈ pl) (far : dist ts r q ≤ dist ts r p) (h1 : dist ts p v ≤ L) (h2 : dist ts q v ≤ L) : dist ts q (hlp ts L r p) ≤ L := by
  obtain ⟨_, m1, mp, mL, top⟩ := hlp_is F hL hr hp
  generalize hlp ts L r p = h at *
  have sy := fun {a b : Nm} (x : a ∈ pl) (y : b ∈ pl) => (F.dist_symm x y).1
  obtain ⟨m, k1, k2, k3, k4, k5⟩ := F.meet hp hr hv
  have n1 := dist_nn F k2 hv
  have t1 := top m k1 (by omega)
  have b1 := F.between hp hr k1 m1 t1
  have e1 := (F.over hp hr mp).2.1.mpr m1
  have tv1 := (F.over hv mp k2).1
  have tv2 := (F.over hv hr mp).1
  have e2 : dist ts v h + dist ts h r = dist ts v r := by omega
  have hin : h ∈ path ts v r := (F.over hv hr mp).2.1.mp e2
  obtain ⟨a, a1, a2, a3, a4, a5⟩ := F.meet hv hr hq
  have q1 := (F.over hq mp a2).1
  have s1 := sy hq a2
  have s2 := sy a2 mp
  have s3 := sy hq hv
  have s4 := sy hr hq
  have s5 := sy hr hp
  rcases Int.le_total (dist ts v h) (dist ts v a) with c | c
  · have b2 := F.between hv hr hin a1 c
    have := dist_nn F hv mp
    omega
  · have b2 := F.between hv hr a1 hin c
    omega
end Far

namespace Far
open PySem PySem.Spec PyProof.Rows L2
open SX (S)
/-! ### helpers taken one after another: the fewest -/
noncomputable def stepG (ts : List Tie) (L : Int) (taken : List Nm) (z : Nm × Nm) : List Nm := if taken.any (nearB ts L z.1) then taken else taken ++ [z.2]
noncomputable def greedy (ts : List Tie) (L : Int) (C : List Nm) (hs : List (Nm × Nm)) : List Nm := hs.foldl (stepG ts L) C
noncomputable def hlps (ts : List Tie) (L : Int) (r : Nm) (os : List Nm) : List (Nm × Nm) := os.map fun p => (p, hlp ts L r p)
theorem greedy_all {pl : List Nm} {ts : List Tie} (F : IsTree pl ts) {L : Int} (hL : 0 ≤ L) {r : Nm} (hr : r ∈ pl) : ∀ (os C : List Nm), (∀ p ∈ os, p ∈ pl) → os.Pairwise (fun x y => dist ts r y ≤ dist ts r x) → (∀ p ∈ C, p ∈ pl) →
    ∃ E : List Nm, greedy ts L C (hlps ts L r os) = C ++ E ∧ (∀ p ∈ E, p ∈ pl) ∧ (∀ p ∈ os, (C ++ E).any (nearB ts L p) = true) ∧ (C.Nodup → (C ++ E).Nodup) ∧
      ∀ S' : List Nm, (∀ p ∈ S', p ∈ pl) → (∀ q ∈ os, C.any (nearB ts L q) = false → S'.any (nearB ts L q) = true) → E.length ≤ S'.length
  | [], C, _, _, _ => ⟨[], by simp [greedy, hlps], (fun _ h => by cases h), (fun _ h => by cases h), (fun h => by simpa using h), fun _ _ _ => Nat.zero_le _⟩
  | p :: os, C, ho, hd, hC => by
    obtain ⟨d1, d2⟩ := List.pairwise_cons.mp hd
    have hp := ho p List.mem_cons_self
    have ho' : ∀ q ∈ os, q ∈ pl := fun q hq => ho q (List.mem_cons_of_mem _ hq)
    have eg : greedy ts L C (hlps ts L r (p :: os)) = greedy ts L (stepG ts L C (p, hlp ts L r p)) (hlps ts L r os) := rfl
    cases c : C.any (nearB ts L p) with
    | true =>
      have e1 : stepG ts L C (p, hlp ts L r p) = C := if_pos c
      obtain ⟨E, h1, h2, h3, h4, h5⟩ := greedy_all F hL hr os C ho' d2 hC
      refine ⟨E, by rw [eg, e1, h1], h2, fun q hq => ?_, h4, fun S' s1 s2 => h5 S' s1 fun q hq => s2 q (List.mem_cons_of_mem _ hq)⟩
      rcases List.mem_cons.mp hq with rfl | hq
      · rw [List.any_append, c]
        rfl
      · exact h3 q hq
    | false =>
      have e1 : stepG ts L C (p, hlp ts L r p) = C ++ [hlp ts L r p] := if_neg (by show ¬ C.any (nearB ts L p) = true; rw [c]; decide)
      obtain ⟨_, i1, i2, i3, i4⟩ := hlp_is F hL hr hp
      obtain ⟨E, h1, h2, h3, h4, h5⟩ := greedy_all F hL hr os (C ++ [hlp ts L r p]) ho' d2 (fun q hq => (List.mem_append.mp hq).elim (hC q) fun z => List.mem_singleton.mp z ▸ i2)
      refine ⟨hlp ts L r p :: E, by rw [eg, e1, h1, List.append_assoc]; rfl, fun q hq => (List.mem_cons.mp hq).elim (fun z => z ▸ i2) (h2 q), fun q hq => ?_, fun nd => ?_, fun S' s1 s2 => ?_⟩
      · have e2 : C ++ hlp ts L r p :: E = C ++ [hlp ts L r p] ++ E := by rw [List.append_assoc]; rfl
        rw [e2]
        rcases List.mem_cons.mp hq with rfl | hq
        · refine List.any_eq_true.mpr ⟨_, List.mem_append_left _ (List.mem_append_right _ (List.mem_singleton.mpr rfl)), decide_eq_true i3⟩
        · exact h3 q hq
      · have e2 : C ++ hlp ts L r p :: E = C ++ [hlp ts L r p] ++ E := by rw [List.append_assoc]; rfl
        rw [e2]
        refine h4 ?_
        rw [List.nodup_append]
        refine ⟨nd, by simp, fun a ha b hb e => ?_⟩
        have hb := List.mem_singleton.mp hb
        have : C.any (nearB ts L p) = true := List.any_eq_true.mpr ⟨a, ha, decide_eq_true (by rw [e, hb]; exact i3)⟩
        rw [c] at this
        cases this
      · obtain ⟨v, hv, nv⟩ := List.any_eq_true.mp (s2 p List.mem_cons_self c)
        have lt : (S'.filter fun t => !nearB ts L p t).length < S'.length := List.length_filter_lt_length_iff_exists.mpr ⟨v, hv, by rw [nv]; decide⟩
        have := h5 (S'.filter fun t => !nearB ts L p t) (fun q hq => s1 q (List.mem_filter.mp hq).1) fun q hq nq => ?_
        · rw [List.length_cons]
          omega
        · rw [List.any_append, Bool.or_eq_false_iff] at nq
          obtain ⟨v', hv', nv'⟩ := List.any_eq_true.mp (s2 q (List.mem_cons_of_mem _ hq) nq.1)
          refine List.any_eq_true.mpr ⟨v', List.mem_filter.mpr ⟨hv', ?_⟩, nv'⟩
          cases np : nearB ts L p v' with
          | false => rfl
          | true =>
            have := helper_near F hL hr hp (ho' q hq) (s1 v' hv') (d1 q hq) (of_decide_eq_true np) (of_decide_eq_true nv')
            have e3 : [hlp ts L r p].any (nearB ts L q) = true := by
              rw [List.any_cons, show nearB ts L q (hlp ts L r p) = true from decide_eq_true this]
              rfl
            rw [e3] at nq
            cases nq.2
/-- places near to all -/
def CovN (pl : List Nm) (ts : List Tie) (L : Int) (S' : List Nm) : Prop := ∀ p ∈ pl, S'.any (nearB ts L p) = true
structure Ord (pl : List Nm) (ts : List Tie) (r : Nm) (os : List Nm) : Prop where
  perm : os.Perm pl
  far : os.Pairwise (fun x y => dist ts r y ≤ dist ts r x)
theorem greedy_is {pl : List Nm} {ts : List Tie} (F : IsTree pl ts) {L : Int} (hL : 0 ≤ L) {r : Nm} (hr : r ∈ pl) {os C : List Nm} (O : Ord pl ts r os) (hC : ∀ p ∈ C, p ∈ pl) (nd : C.Nodup) :
    (greedy ts L C (hlps ts L r os)).Nodup ∧ (∀ p ∈ greedy ts L C (hlps ts L r os), p ∈ pl) ∧ CovN pl ts L (greedy ts L C (hlps ts L r os)) ∧ (∀ p ∈ C, p ∈ greedy ts L C (hlps ts L r os)) ∧
      ∀ S' : List Nm, S'.Nodup → (∀ p ∈ S', p ∈ pl) → CovN pl ts L S' → (∀ p ∈ C, p ∈ S') → (greedy ts L C (hlps ts L r os)).length ≤ S'.length := by
  obtain ⟨E, h1, h2, h3, h4, h5⟩ := greedy_all F hL hr os C (fun p hp => O.perm.mem_iff.mp hp) O.far hC
  rw [h1]
  refine ⟨h4 nd, fun p hp => (List.mem_append.mp hp).elim (hC p) (h2 p), fun p hp => h3 p (O.perm.mem_iff.mpr hp), fun p hp => List.mem_append_left _ hp, fun S' nS s1 s2 s3 => ?_⟩
  have a := h5 (S'.filter fun t => !decide (t ∈ C)) (fun q hq => s1 q (List.mem_filter.mp hq).1) fun q hq nq => by
    obtain ⟨v, hv, nv⟩ := List.any_eq_true.mp (s2 q (O.perm.mem_iff.mp hq))
    refine List.any_eq_true.mpr ⟨v, List.mem_filter.mpr ⟨hv, ?_⟩, nv⟩
    have : v ∉ C := fun z => by
      rw [List.any_eq_true.mpr ⟨v, z, nv⟩] at nq
      cases nq
    simp [this]
  have b : (C ++ S'.filter fun t => !decide (t ∈ C)).length ≤ S'.length := by
    refine List.Nodup.length_le_of_subset ?_ ?_
    · rw [List.nodup_append]
      refine ⟨nd, nS.filter _, fun x hx y hy e => ?_⟩
      have := (List.mem_filter.mp hy).2
      rw [← e] at this
      simp [hx] at this
    · intro x hx
      exact (List.mem_append.mp hx).elim (s3 x) fun z => (List.mem_filter.mp z).1
  rw [List.length_append] at b ⊢
  omega
/-! ### places picked by their numbers -/
def pk (g : Nat → Bool) (s n : Nat) : List Nat := (List.range' s n).filter g
theorem pk_mem {g : Nat → Bool} {s n j : Nat} : j ∈ pk g s n ↔ (s ≤ j ∧ j < s + n) ∧ g j = true := by
  unfold pk
  rw [List.mem_filter, List.mem_range'_1]
theorem pk_nodup (g : Nat → Bool) (s n : Nat) : (pk g s n).Nodup := (List.nodup_range' (step := 1) (h := by decide)).filter _
theorem pk_succ (g : Nat → Bool) (n : Nat) : pk g 0 (n + 1) = pk g 0 n ++ if g n = true then [n] else [] := by
  unfold pk
  rw [List.range'_concat, List.filter_append]
  congr 1
  rw [Nat.one_mul, Nat.zero_add]
  cases c : g n <;> simp [c]
theorem pk_lt {g h : Nat → Bool} : ∀ (n s i : Nat), (pk g s n).length = (pk h s n).length → s ≤ i → i < s + n → (∀ j, s ≤ j → j < i → h j = true → g j = true) → g i = true → h i = false → pk g s n < pk h s n
  | 0, s, i, _, h1, h2, _, _, _ => by omega
  | n + 1, s, i, hl, h1, h2, h3, h4, h5 => by
    have eg : pk g s (n + 1) = if g s = true then s :: pk g (s + 1) n else pk g (s + 1) n := by
      unfold pk
      rw [List.range'_succ, List.filter_cons]
    have eh : pk h s (n + 1) = if h s = true then s :: pk h (s + 1) n else pk h (s + 1) n := by
      unfold pk
      rw [List.range'_succ, List.filter_cons]
    rw [eg, eh] at hl ⊢
    cases cg : g s with
    | true =>
      rw [cg, if_pos rfl] at hl
      rw [if_pos rfl]
      cases ch : h s with
      | true =>
        rw [ch, if_pos rfl, List.length_cons, List.length_cons] at hl
        rw [if_pos rfl, List.cons_lt_cons_iff]
        have ne : i ≠ s := fun z => by rw [z, ch] at h5; cases h5
        exact .inr ⟨rfl, pk_lt n (s + 1) i (by omega) (by omega) (by omega) (fun j a b => h3 j (by omega) b) h4 h5⟩
      | false =>
        rw [ch, if_neg (by decide), List.length_cons] at hl
        rw [if_neg (by decide)]
        cases e : pk h (s + 1) n with
        | nil => rw [e] at hl; simp at hl
        | cons y r =>
          have : y ∈ pk h (s + 1) n := by rw [e]; exact List.mem_cons_self
          have := (pk_mem.mp this).1.1
          rw [List.cons_lt_cons_iff]
          exact .inl (by omega)
    | false =>
      have ne : i ≠ s := fun z => by rw [z, cg] at h4; cases h4
      cases ch : h s with
      | true =>
        have := h3 s (Nat.le_refl _) (by omega) ch
        rw [cg] at this
        cases this
      | false =>
        rw [cg, ch, if_neg (by decide), if_neg (by decide)] at hl
        rw [if_neg (by decide), if_neg (by decide)]
        exact pk_lt n (s + 1) i hl (by omega) (by omega) (fun j a b => h3 j (by omega) b) h4 h5
def nm (pl : List Nm) (j : Nat) : Nm := pl.getD j []
def nms (pl : List Nm) (js : List Nat) : List Nm := js.map (nm pl)
theorem nm_mem {pl : List Nm} {j : Nat} (h : j < pl.length) : nm pl j ∈ pl ∧ pl[j]? = some (nm pl j) := by
  have e : pl[j]? = some (nm pl j) := by
    unfold nm
    rw [List.getD_eq_getElem?_getD, List.getElem?_eq_getElem h]
    rfl
  exact ⟨List.mem_of_getElem? e, e⟩
theorem nm_inj {pl : List Nm} (nd : pl.Nodup) {i j : Nat} (hi : i < pl.length) (hj : j < pl.length) (e : nm pl i = nm pl j) : i = j := by
  have a := (nm_mem hi).2
  have b := (nm_mem hj).2
  rw [e] at a
  exact (List.getElem?_inj hi nd).mp (a.trans b.symm)
theorem nm_of {pl : List Nm} {x : Nm} (h : x ∈ pl) : ∃ j < pl.length, nm pl j = x := by
  obtain ⟨j, hj, e⟩ := List.getElem_of_mem h
  refine ⟨j, hj, ?_⟩
  unfold nm
  rw [List.getD_eq_getElem?_getD, List.getElem?_eq_getElem hj]
  exact e
theorem nms_ok {pl : List Nm} (nd : pl.Nodup) {js : List Nat} (hj : ∀ j ∈ js, j < pl.length) (n : js.Nodup) : (nms pl js).Nodup ∧ ∀ p ∈ nms pl js, p ∈ pl := by
  constructor
  · exact List.pairwise_map.mpr (n.imp_of_mem fun {a b} ha hb ne e => ne (nm_inj nd (hj a ha) (hj b hb) e))
  · intro p hp
    obtain ⟨j, h, rfl⟩ := List.mem_map.mp hp
    exact (nm_mem (hj j h)).1
def Cv (pl : List Nm) (ts : List Tie) (L : Int) (g : Nat → Bool) : Prop := ∀ k < pl.length, ∃ a < pl.length, g a = true ∧ dist ts (nm pl a) (nm pl k) ≤ L
theorem cv_cov {pl : List Nm} {ts : List Tie} (F : IsTree pl ts) {L : Int} {g : Nat → Bool} (h : Cv pl ts L g) : CovN pl ts L (nms pl (pk g 0 pl.length)) := by
  intro p hp
  obtain ⟨k, hk, rfl⟩ := nm_of hp
  obtain ⟨a, ha, ga, d⟩ := h k hk
  refine List.any_eq_true.mpr ⟨nm pl a, List.mem_map_of_mem (pk_mem.mpr ⟨⟨Nat.zero_le _, by omega⟩, ga⟩), decide_eq_true ?_⟩
  rw [(F.dist_symm (nm_mem hk).1 (nm_mem ha).1).1]
  exact d
theorem cov_cv {pl : List Nm} {ts : List Tie} (F : IsTree pl ts) {L : Int} {S' : List Nm} (hs : ∀ p ∈ S', p ∈ pl) (h : CovN pl ts L S') : Cv pl ts L fun j => decide (nm pl j ∈ S') := by
  intro k hk
  obtain ⟨v, hv, nv⟩ := List.any_eq_true.mp (h _ (nm_mem hk).1)
  obtain ⟨a, ha, rfl⟩ := nm_of (hs v hv)
  refine ⟨a, ha, decide_eq_true hv, ?_⟩
  rw [(F.dist_symm (nm_mem ha).1 (nm_mem hk).1).1]
  exact of_decide_eq_true nv
theorem pk_len {pl S' : List Nm} (nd : pl.Nodup) (nS : S'.Nodup) (hs : ∀ p ∈ S', p ∈ pl) : (pk (fun j => decide (nm pl j ∈ S')) 0 pl.length).length = S'.length := by
  have lt : ∀ j ∈ pk (fun j => decide (nm pl j ∈ S')) 0 pl.length, j < pl.length := fun j hj => by have := (pk_mem.mp hj).1; omega
  have p : (nms pl (pk (fun j => decide (nm pl j ∈ S')) 0 pl.length)).Perm S' := by
    refine (List.perm_ext_iff_of_nodup (nms_ok nd lt (pk_nodup _ _ _)).1 nS).mpr fun x => ⟨fun hx => ?_, fun hx => ?_⟩
    · obtain ⟨j, hj, rfl⟩ := List.mem_map.mp hx
      exact of_decide_eq_true (pk_mem.mp hj).2
    · obtain ⟨j, hj, rfl⟩ := nm_of (hs x hx)
      exact List.mem_map_of_mem (pk_mem.mpr ⟨⟨Nat.zero_le _, by omega⟩, decide_eq_true hx⟩)
  have := p.length_eq
  rw [nms, List.length_map] at this
  exact this
/-- fewer, or as many and ahead -/
def Better (I J : List Nat) : Prop := I.length < J.length ∨ (I.length ≤ J.length ∧ I < J)
theorem fewest_first {pl : List Nm} {ts : List Tie} (F : IsTree pl ts) {L : Int} (hL : 0 ≤ L) {r : Nm} (hr : r ∈ pl) {os : List Nm} (O : Ord pl ts r os) {g : Nat → Bool} (hg : Cv pl ts L g) (top : ∀ h, Cv pl ts L h → ¬ Better (pk h 0 pl.length) (pk g 0 pl.length)) :
    (greedy ts L [] (hlps ts L r os)).length = (pk g 0 pl.length).length ∧
      ∀ i < pl.length, ((greedy ts L (nms pl (pk g 0 i) ++ [nm pl i]) (hlps ts L r os)).length = (pk g 0 pl.length).length ↔ g i = true) := by
  have nd := F.nodup
  have all : ∀ S' : List Nm, S'.Nodup → (∀ p ∈ S', p ∈ pl) → CovN pl ts L S' → (pk g 0 pl.length).length ≤ S'.length := fun S' n1 n2 n3 => by
    have := top _ (cov_cv F n2 n3)
    rw [← pk_len nd n1 n2]
    exact Nat.le_of_not_lt fun z => this (.inl z)
  have lt : ∀ n ≤ pl.length, ∀ j ∈ pk g 0 n, j < pl.length := fun n hn j hj => by have := (pk_mem.mp hj).1; omega
  obtain ⟨B1, B2⟩ := nms_ok nd (lt _ (Nat.le_refl _)) (pk_nodup g 0 pl.length)
  have B3 := cv_cov F hg
  have lB : (nms pl (pk g 0 pl.length)).length = (pk g 0 pl.length).length := List.length_map ..
  constructor
  · obtain ⟨a1, a2, a3, _, a5⟩ := greedy_is F hL hr O (C := []) (fun _ h => by cases h) List.nodup_nil
    have := a5 _ B1 B2 B3 (fun _ h => by cases h)
    have := all _ a1 a2 a3
    omega
  · intro i hi
    obtain ⟨c1, c2⟩ := nms_ok nd (js := pk g 0 i ++ [i]) (fun j hj => (List.mem_append.mp hj).elim (lt i (by omega) j) fun z => by rw [List.mem_singleton.mp z]; exact hi) (by
      rw [List.nodup_append]
      refine ⟨pk_nodup _ _ _, by simp, fun a ha b hb e => ?_⟩
      have := (pk_mem.mp ha).1
      have := List.mem_singleton.mp hb
      omega)
    have ec : nms pl (pk g 0 i ++ [i]) = nms pl (pk g 0 i) ++ [nm pl i] := by unfold nms; rw [List.map_append]; rfl
    rw [ec] at c1 c2
    obtain ⟨a1, a2, a3, a4, a5⟩ := greedy_is F hL hr O c2 c1
    have lo := all _ a1 a2 a3
    constructor
    · intro e
      cases gi : g i with
      | true => rfl
      | false =>
        exfalso
        refine top _ (cov_cv F a2 a3) (.inr ⟨by rw [pk_len nd a1 a2, e]; exact Nat.le_refl _, ?_⟩)
        refine pk_lt pl.length 0 i (by rw [pk_len nd a1 a2, e]) (Nat.zero_le _) (by omega) (fun j _ hj gj => ?_) ?_ gi
        · exact decide_eq_true (a4 _ (List.mem_append_left _ (List.mem_map_of_mem (pk_mem.mpr ⟨⟨Nat.zero_le _, by omega⟩, gj⟩))))
        · exact decide_eq_true (a4 _ (List.mem_append_right _ (List.mem_singleton.mpr rfl)))
    · intro gi
      have := a5 _ B1 B2 B3 fun p hp => ?_
      · omega
      · rcases List.mem_append.mp hp with z | z
        · obtain ⟨j, hj, rfl⟩ := List.mem_map.mp z
          have := pk_mem.mp hj
          exact List.mem_map_of_mem (pk_mem.mpr ⟨⟨Nat.zero_le _, by omega⟩, this.2⟩)
        · rw [List.mem_singleton.mp z]
          exact List.mem_map_of_mem (pk_mem.mpr ⟨⟨Nat.zero_le _, by omega⟩, gi⟩)
end Far

namespace Far
open PySem PySem.Spec PyProof.Rows L2
open C8 (pss_cut tCut)
open SX (S)
open RZ (ItzT iZipA pi_zipA)
abbrev s_places_near : Stmt := topS 49
abbrev N_places_near : List Str := ["tree", "place", "length", "lengths", "other", "apart"]
theorem sc_places_near : FnScope N_places_near ["tree", "place", "length"] (defScope s_places_near) := ⟨rfl, rfl, rfl, by decide +kernel, rfl, by decide +kernel, by decide +kernel⟩
abbrev s_helpers : Stmt := topS 50
abbrev N_helpers : List Str := ["tree", "near", "first", "told", "_", "place", "on_way", "there"]
theorem sc_helpers : FnScope N_helpers ["tree", "near"] (defScope s_helpers) := ⟨rfl, rfl, rfl, by decide +kernel, rfl, by decide +kernel, by decide +kernel⟩
abbrev s_fewest_with : Stmt := topS 51
abbrev N_fewest_with : List Str := ["chosen", "near", "helpers", "taken", "place", "helper", "there"]
theorem sc_fewest_with : FnScope N_fewest_with ["chosen", "near", "helpers"] (defScope s_fewest_with) := ⟨rfl, rfl, rfl, by decide +kernel, rfl, by decide +kernel, by decide +kernel⟩
abbrev s_fewest_within : Stmt := topS 48
abbrev N_fewest_within : List Str := ["tree", "length", "place", "near", "helpers", "fewest", "chosen"]
theorem sc_fewest_within : FnScope N_fewest_within ["tree", "length"] (defScope s_fewest_within) := ⟨rfl, rfl, rfl, by decide +kernel, rfl, by decide +kernel, by decide +kernel⟩
structure TxtF (mg : Str → Option Value) : Prop where
  zip : mg "zip" = none
  sorted : mg "sorted" = none
  list : mg "list" = none
  any : mg "any" = none
  len : mg "len" = none
  tuple : mg "tuple" = none
noncomputable def nearL (pl : List Nm) (ts : List Tie) (L : Int) (u : Nm) : List Nm := pl.filter (nearB ts L u)
structure NearAt (H : Hp) (D : Addr) (pl fs : List Nm) (ts : List Tie) (L : Int) (ad : Nm → Addr) : Prop where
  dict : H D = some (.dK (dkm fs fun x => .ref (ad x)))
  each : ∀ x ∈ fs, H (ad x) = some (.lst (((nearL pl ts L x).map S).map V.str))
theorem NearAt.keep {H H' : Hp} {D : Addr} {pl fs : List Nm} {ts : List Tie} {L : Int} {ad : Nm → Addr} (h : NearAt H D pl fs ts L ad) (s : Same H H') : NearAt H' D pl fs ts L ad := ⟨s _ _ h.dict, fun x hx => s _ _ (h.each x hx)⟩
theorem perm_of_map {α β : Type} {f : α → β} {xs ys : List β} (p : ys.Perm xs) : ∀ {l : List α}, l.map f = xs → ∃ m : List α, m.Perm l ∧ m.map f = ys := by
  induction p with
  | nil =>
    intro l h
    exact ⟨l, .refl _, h⟩
  | @cons x l1 l2 _ ih =>
    intro l h
    cases l with
    | nil => cases h
    | cons a r =>
      obtain ⟨h1, h2⟩ := List.cons.inj h
      obtain ⟨m, pm, em⟩ := ih h2
      exact ⟨a :: m, pm.cons a, by rw [List.map_cons, em, h1]⟩
  | swap x y l0 =>
    intro l h
    cases l with
    | nil => cases h
    | cons a r =>
      cases r with
      | nil => cases (List.cons.inj h).2
      | cons b r =>
        obtain ⟨h1, h2⟩ := List.cons.inj h
        obtain ⟨h3, h4⟩ := List.cons.inj h2
        exact ⟨b :: a :: r, List.Perm.swap a b r, by rw [List.map_cons, List.map_cons, h1, h3, h4]⟩
  | trans _ _ ih1 ih2 =>
    intro l h
    obtain ⟨m, pm, em⟩ := ih2 h
    obtain ⟨m2, pm2, em2⟩ := ih1 em
    exact ⟨m2, pm2.trans pm, em2⟩
/-- pairs of texts, one after another -/
inductive HlpAt (H : Hp) : List V → List (Nm × Nm) → Prop
  | nil : HlpAt H [] []
  | cons {p : Addr} {z : Nm × Nm} {us : List V} {hs : List (Nm × Nm)} : H p = some (.tup [.str (S z.1), .str (S z.2)]) → HlpAt H us hs → HlpAt H (.ref p :: us) (z :: hs)
theorem HlpAt.keep {H H' : Hp} (k : ∀ p xs, H p = some (.tup xs) → H' p = some (.tup xs)) {us : List V} {hs : List (Nm × Nm)} (h : HlpAt H us hs) : HlpAt H' us hs := by
  induction h with
  | nil => exact .nil
  | cons e _ ih => exact .cons (k _ _ e) ih
theorem HlpAt.snoc {H : Hp} {p : Addr} {z : Nm × Nm} (e : H p = some (.tup [.str (S z.1), .str (S z.2)])) {us : List V} {hs : List (Nm × Nm)} (h : HlpAt H us hs) : HlpAt H (us ++ [.ref p]) (hs ++ [z]) := by
  induction h with
  | nil => exact .cons e .nil
  | cons e2 _ ih => exact .cons e2 ih
theorem HlpAt.len {H : Hp} {us : List V} {hs : List (Nm × Nm)} (h : HlpAt H us hs) : us.length = hs.length := by
  induction h with
  | nil => rfl
  | cons _ _ ih => rw [List.length_cons, List.length_cons, ih]
theorem HlpAt.get {H : Hp} {us : List V} {hs : List (Nm × Nm)} (h : HlpAt H us hs) : ∀ {i : Nat} {v : V}, us[i]? = some v → ∃ (p : Addr) (z : Nm × Nm), hs[i]? = some z ∧ v = .ref p ∧ H p = some (.tup [.str (S z.1), .str (S z.2)]) := by
  induction h with
  | nil => intro i v e; simp at e
  | @cons p z us hs e2 _ ih =>
    intro i v e
    cases i with
    | zero => exact ⟨p, z, rfl, (Option.some.inj e).symm, e2⟩
    | succ i => exact ih (i := i) e
theorem zip_map (pl : List Nm) (f : Nm → Int) (g : Nm → Str) : (pl.map f).zip (pl.map g) = pl.map fun x => (f x, g x) := by
  induction pl with
  | nil => rfl
  | cons x r ih => simp [ih]
section
variable {P : Program} {w : World} {K : PySem.W.Frag} {mg : Str → Option Value} {base : Heap}
def spNear : Sp := fun vs H Q _ => ∃ (v : V) (pl : List Nm) (ts : List Tie) (u : Nm) (L : Int), vs = [v, .str (S u), .int L] ∧ Dt H v (treeD pl ts) ∧ Fine pl ts ∧ u ∈ pl ∧ 0 ≤ L ∧ ∀ (H' : Hp) (q : Addr), Same H H' → H q = none → H' q = some (.lst (((nearL pl ts L u).map S).map V.str)) → Q (.ref q) H'
theorem ok_places_near {f : Addr} {fd : FuncData} (F : Fun K "_places_near" "_places_near" s_places_near f fd) (T : TxtF mg) (Clengths_from : Cal P w K mg base 3 "lengths_from" spLens) : FnOk P w K mg base CX0 4 f fd ["tree", "place", "length"] spNear := by
  refine F.ok sc_places_near (fun vs H Q E h => ?_) (fun cdv A outer s H vs Q E hr h => ?_)
  · obtain ⟨v, pl, ts, u, L, rfl, _⟩ := h
    rfl
  · obtain ⟨v, pl, ts, u, L, rfl, hd, fine, hu, hL, q⟩ := h
    obtain ⟨t, a, b, vs, rfl, ht, ha, hb, hA⟩ := dt_tree hd
    have pl1 := fine.len
    refine ⟨_, (pss_cons (ps_set (i := 3) sc_places_near.nd rfl (.inl rfl) (pe_c Clengths_from hr (by decide) rfl (pa_cons (pv 0) (pa_cons (pv 1) pa_nil))))
      (pss_one (ps_ret (pe_lc (own := [("other", 4), ("apart", 5)]) (g := gTup K 2 (gCons (gName 4) (gCons (gName 5) gNil)))  rfl sc_places_near.nd (pi_zipA (by rfl) T.zip (pa_cons (pe_ix ix_tup (pv 0) pe_int (fun _ _ => rfl)) (pa_cons (pv 3) pa_nil))) (blkOk_by (N := N_places_near) (sc := defScope s_places_near) (by decide +kernel)) (fun _ _ _ _ _ => (pg_tup rfl (pgs_cons (pg_name (i := 4) sc_places_near.nd rfl (.inl rfl)) (pgs_cons (pg_name (i := 5) sc_places_near.nd rfl (.inl rfl)) pgs_nil)))) (fun _ _ _ _ _ => pts_one (PW.pt (pw_or (pt_cmpR op_eq (pv 4) (pv 1) (nomark _)) (pw_or1 (pt_cmpR op_le (pv 5) (pv 2) (nomark _)))))) (fun _ _ _ _ _ => (pv 4)))))), ?_⟩
    refine ⟨_, rfl, _, rfl, _, pl, ts, u, rfl, hd, fine, hu, fun H1 g s1 ng hg => ?_⟩
    refine ⟨_, rfl, t, _, 0, .ref a, rfl, rfl, SqT.of (s1 _ _ ht), atI_nat (j := 0) rfl, _, rfl, a, g, _, _, rfl, .inr ⟨(ha.same s1).sq, SqT.of hg, fun D nD => ?_⟩⟩
    refine zip_it (by simp) (fun i H'' => Same H H'' ∧ H'' g = some (.tup (pl.map fun x => .int (dist ts u x))) ∧ H'' D = some (.lst (((nearL (pl.take i) ts L u).map S).map V.str))) ⟨same_new s1 nD, by rw [upd_ne (ne_of_none hg nD)]; exact hg, upd_same⟩ (fun i H'' hP => ⟨(ha.same hP.1).sq, SqT.of hP.2.1⟩) (fun i x y H'' T hx hy hP nT => ?_) (fun H'' hP => ?_)
    · obtain ⟨S2, hg2, hD⟩ := hP
      obtain ⟨l, hl, ml, rfl, ex⟩ := at_name hx
      rw [List.getElem?_map, hl] at hy
      have ey : y = .int (dist ts u l) := (Option.some.inj hy).symm
      subst ey
      have il := (List.getElem?_eq_some_iff.mp hl).1
      have TD : D ≠ T := ne_of_none hD nT
      have Tg : g ≠ T := ne_of_none hg2 nT
      refine ⟨T, _, rfl, SqT.of upd_same, rfl, _, _, rfl, _, _, rfl, rfl, rfl, ?_⟩
      have gl : (nearL (pl.take i) ts L u).length ≤ 1000 := by
        have := List.length_filter_le (nearB ts L u) (pl.take i)
        rw [List.length_take] at this
        unfold nearL
        omega
      have SM := same_new (o := .tup [V.str (S l), .int (dist ts u l)]) S2 nT
      have put : nearB ts L u l = true → ∃ acc, (upd H'' T (.tup [V.str (S l), .int (dist ts u l)])) D = some (.lst acc) ∧ acc.length < sizeLine ∧ Same H (upd (upd H'' T (.tup [V.str (S l), .int (dist ts u l)])) D (.lst (acc ++ [.str (S l)]))) ∧
          upd (upd H'' T (.tup [V.str (S l), .int (dist ts u l)])) D (.lst (acc ++ [.str (S l)])) g = some (.tup (pl.map fun x => .int (dist ts u x))) ∧ upd (upd H'' T (.tup [V.str (S l), .int (dist ts u l)])) D (.lst (acc ++ [.str (S l)])) D = some (.lst (((nearL (pl.take (i + 1)) ts L u).map S).map V.str)) := fun c => by
        refine ⟨_, by rw [upd_ne TD]; exact hD, by rw [List.length_map, List.length_map]; exact sz_lt (by omega), same_put SM (s1.free nD), by rw [upd_ne (ne_of_none hg nD), upd_ne Tg]; exact hg2, ?_⟩
        rw [upd_same, ex]
        unfold nearL
        rw [List.filter_append, List.filter_cons_of_pos c, List.map_append, List.map_append]
        rfl
      by_cases e : l = u
      · refine ⟨_, rfl, _, rfl, rfl, _, rfl, ?_⟩
        rw [e, decide_eq_true rfl]
        refine iteT (iteT ⟨_, rfl, ?_⟩)
        rw [e] at put
        exact put (by unfold nearB; rw [(fine.tree.dist_self u).1]; exact decide_eq_true hL)
      · refine ⟨_, rfl, _, rfl, rfl, _, rfl, ?_⟩
        rw [decide_eq_false (fun z => e (SX.S_inj (V.str.inj z)))]
        refine iteF ⟨_, rfl, _, rfl, _, _, rfl, rfl, _, rfl, ?_⟩
        by_cases c : dist ts u l ≤ L
        · rw [decide_eq_true c]
          exact iteT ⟨_, rfl, put (decide_eq_true c)⟩
        · rw [decide_eq_false c]
          refine iteF ⟨SM, by rw [upd_ne Tg]; exact hg2, ?_⟩
          rw [upd_ne TD, ex]
          unfold nearL at *
          rw [List.filter_append, List.filter_cons_of_neg (by unfold nearB; rw [decide_eq_false c]; decide)]
          simpa using hD
    · obtain ⟨S2, hg2, hD⟩ := hP
      rw [List.length_map, List.length_map, List.take_length] at hD
      exact q H'' D S2 (s1.free nD) hD
def spHelpers : Sp := fun vs H Q _ => ∃ (v : V) (D : Addr) (pl : List Nm) (ts : List Tie) (L : Int) (ad : Nm → Addr), vs = [v, .ref D] ∧ Dt H v (treeD pl ts) ∧ Fine pl ts ∧ 0 ≤ L ∧ NearAt H D pl pl ts L ad ∧
  ∀ (H' : Hp) (q : Addr) (os : List Nm) (us : List V), Same H H' → H q = none → Ord pl ts (nm pl 0) os → H' q = some (.lst us) → HlpAt H' us (hlps ts L (nm pl 0) os) → Q (.ref q) H'
theorem ok_helpers {f : Addr} {fd : FuncData} (F : Fun K "_helpers" "_helpers" s_helpers f fd) (T : TxtF mg) (Clengths_from : Cal P w K mg base 3 "lengths_from" spLens) (Cway_between : Cal P w K mg base 3 "way_between" spWay) : FnOk P w K mg base CX0 4 f fd ["tree", "near"] spHelpers := by
  refine F.ok sc_helpers (fun vs H Q E h => ?_) (fun cdv A outer s H vs Q E hr h => ?_)
  · obtain ⟨v, D, pl, ts, L, ad, rfl, _⟩ := h
    rfl
  · obtain ⟨v, D, pl, ts, L, ad, rfl, hd, fine, hL, hN, q⟩ := h
    obtain ⟨t, a, b, vs, rfl, ht, ha, hb, hA⟩ := dt_tree hd
    have pl1 := fine.len
    have ne : 0 < pl.length := by have := fine.tree.len; omega
    obtain ⟨r1, r2⟩ := nm_mem ne
    have er : ((pl.map S).map V.str)[0]? = some (.str (S (nm pl 0))) := by rw [List.getElem?_map, List.getElem?_map, r2]; rfl
    generalize nm pl 0 = r at *
    refine ⟨_, (pss_cons (ps_set (i := 2) sc_helpers.nd rfl (.inl rfl) (pe_ix ix_tup (pe_ix ix_tup (pv 0) pe_int (fun _ _ => rfl)) pe_int (fun _ _ => rfl)))
      (pss_cons (ps_set (i := 3) sc_helpers.nd rfl (.inl rfl) (pe_lst pa_nil))
      (pss_cut (ps_for PassesOwn.never rfl (pi_list (pe_sortZip (hr.mono (by decide)) (by rfl) T.sorted (by rfl) T.zip (pa_cons (pe_c Clengths_from hr (by decide) rfl (pa_cons (pv 0) (pa_cons (pv 2) pa_nil))) (pa_cons (pe_ix ix_tup (pv 0) pe_int (fun _ _ => rfl)) pa_nil)))) (pg_tup rfl (pgs_cons (pg_name (i := 4) sc_helpers.nd rfl (.inl rfl)) (pgs_cons (pg_name (i := 5) sc_helpers.nd rfl (.inr rfl)) pgs_nil)))
        (pss_cons (ps_setLc (i := 6) (own := [("there", 7)]) (g := gName 7)  rfl sc_helpers.nd rfl rfl (sw_true rfl rfl rfl (by decide +kernel)) (pi_tup (pe_c Cway_between hr (by decide) rfl (pa_cons (pv 0) (pa_cons (pv 5) (pa_cons (pv 2) pa_nil))))) (blkOk_by (N := N_helpers) (sc := defScope s_helpers) (by decide +kernel)) (fun _ _ _ _ _ => pg_name (i := 7) sc_helpers.nd rfl (Or.inl rfl)) (fun _ _ _ _ _ => pts_one (pt_cmpR (inK (K := K)) (pv 7) (pe_dget (hu_of hr) (pv 1) (pv 5) (fun _ _ => rfl)) rfl)) (fun _ _ _ _ _ => (pv 7)))
        (pss_one (ps_expr (pe_bm PySem.F.plainAttrs_list PySem.F.slot_list_append PySem.F.type_list_append mt_append (pv 3) (pa_cons (pe_tup (pa_cons (pv 5) (pa_cons (pe_ix ix_list (pv 6) (pe_un un_neg pe_int) (fun _ _ => rfl)) pa_nil))) pa_nil))))))
      (pss_one (ps_ret (pv 3)))))), ?_⟩
    refine ⟨_, rfl, t, _, 0, .ref a, rfl, rfl, SqT.of ht, atI_nat (j := 0) rfl, a, _, 0, .str (S r), rfl, rfl, ha.sq, atI_nat (j := 0) er, ?_⟩
    refine ⟨Nat.zero_le _, fun T nT => ?_⟩
    have S1 := same_new (o := .lst []) (Same.refl H) nT
    have hT1 : (upd H T (.lst [])) T = some (.lst []) := upd_same
    refine ⟨fun σ' H' => ∃ (x4 x5 x6 x7 : Option V) (os : List Nm) (us : List V), σ' = [some (.ref t), some (.ref D), some (.str (S r)), some (.ref T), x4, x5, x6, x7] ∧ Same H H' ∧ Ord pl ts r os ∧ H' T = some (.lst us) ∧ HlpAt H' us (hlps ts L r os), ?_, fun σ' H' hM => ?_⟩
    · refine ⟨_, rfl, _, rfl, _, pl, ts, r, rfl, Dt.keep (TK.of S1) hd, fine, r1, fun H2 g s2 ng hg => ?_⟩
      have S2 := S1.trans s2
      refine ⟨_, rfl, t, _, 0, .ref a, rfl, rfl, SqT.of (S2 _ _ ht), atI_nat (j := 0) rfl, g, a, pl.map (dist ts r), pl.map S, rfl, by rw [List.map_map]; exact SqT.of hg, (ha.same S2).sq, by simp, by rw [List.length_map]; exact sz_lt (by omega), fun l H3 bs nl s3 hl pm pw hbs => ?_⟩
      rw [zip_map] at pm
      obtain ⟨os, po, eo⟩ := perm_of_map (f := fun x => (dist ts r x, S x)) pm rfl
      have O : Ord pl ts r os := ⟨po, by
        have e : bs.map (·.2.1) = os.map (dist ts r) := by
          have : bs.map (·.2.1) = (bs.map (·.2)).map (·.1) := by rw [List.map_map]; rfl
          rw [this, ← eo, List.map_map]
          rfl
        rw [e] at pw
        exact List.pairwise_map.mp pw⟩
      have ol : os.length = pl.length := po.length_eq
      have bl : bs.length = os.length := by
        have := congrArg List.length eo
        rw [List.length_map, List.length_map] at this
        exact this.symm
      have S3 := S2.trans s3
      have hT3 := s3 _ _ (s2 _ _ hT1)
      have Tl : T ≠ l := ne_of_none (s2 _ _ hT1) nl
      refine ⟨l, rfl, ⟨_, SqL.of hl⟩, ?_⟩
      refine for_list (K := K) (a := l) (xs := bs.map fun z => V.ref z.1) (fun i σ' H' => ∃ (x4 x5 x6 x7 : Option V) (us : List V), σ' = [some (.ref t), some (.ref D), some (.str (S r)), some (.ref T), x4, x5, x6, x7] ∧ Same H H' ∧ H' l = some (.lst (bs.map fun z => V.ref z.1)) ∧ (∀ z ∈ bs, H' z.1 = some (.tup [.int z.2.1, .str z.2.2])) ∧ H' T = some (.lst us) ∧ HlpAt H' us (hlps ts L r (os.take i)))
        ⟨_, _, _, _, [], rfl, S3, hl, hbs, hT3, .nil⟩ (fun i σ' H' _ hP => ?_) (fun i x σ' H' hi hP => ?_) (fun σ' H' hP => ?_)
      · obtain ⟨_, _, _, _, _, _, _, h1, _⟩ := hP
        exact SqL.of h1
      · obtain ⟨x4, x5, x6, x7, us, rfl, S4, hl4, hbs4, hT4, hU⟩ := hP
        rw [List.getElem?_map] at hi
        cases eb : bs[i]? with
        | none => rw [eb] at hi; cases hi
        | some z =>
          rw [eb] at hi
          have ex : x = .ref z.1 := (Option.some.inj hi).symm
          subst ex
          have mz := List.mem_of_getElem? eb
          have eo2 := congrArg (fun l => l[i]?) eo
          simp only [List.getElem?_map, eb] at eo2
          cases ep : os[i]? with
          | none => rw [ep] at eo2; cases eo2
          | some p =>
            rw [ep] at eo2
            have ezp : (dist ts r p, S p) = z.2 := Option.some.inj eo2
            have hz := hbs4 z mz
            rw [← ezp] at hz
            have mp : p ∈ pl := po.mem_iff.mp (List.mem_of_getElem? ep)
            have et : os.take (i + 1) = os.take i ++ [p] := by rw [List.take_add_one, ep]; rfl
            have il := (List.getElem?_eq_some_iff.mp ep).1
            refine ⟨z.1, _, rfl, SqT.of hz, rfl, _, _, rfl, _, _, rfl, rfl, ?_⟩
            refine ⟨_, rfl, _, rfl, _, rfl, _, pl, ts, p, r, rfl, Dt.keep (TK.of S4) hd, fine, mp, r1, fun H5 w s5 nw hw => ?_⟩
            have S5 := S4.trans s5
            have hN5 := hN.keep S5
            refine ⟨w, rfl, ⟨_, SqT.of hw⟩, fun C nC => ?_⟩
            have fr : ∀ x ∈ path ts p r, x ∈ pl := fun y hy => (fine.tree.the_way mp r1).inside (fun e he => ⟨(fine.tree.ties e he).1, (fine.tree.ties e he).2.1⟩) mp y hy
            have wl : (path ts p r).length ≤ 1000 := path_len fine mp r1
            refine lc_tup (K := K) (a := w) (xs := ((path ts p r).map S).map V.str) (fun j H' => Same H5 H' ∧ H' C = some (.lst (((((path ts p r).take j).filter (nearB ts L p)).map S).map V.str))) ⟨same_new (Same.refl H5) nC, upd_same⟩ (fun j H' _ hP => SqT.of (hP.1 _ _ hw)) (fun j v H' hj hP => ?_) (fun H' hP => ?_)
            · obtain ⟨S6, hC⟩ := hP
              obtain ⟨y, hy, my, rfl, ey⟩ := at_name hj
              have jl := (List.getElem?_eq_some_iff.mp hy).1
              have hN6 := hN5.keep S6
              have hg : DGet H' D (.str (S p)) (some (.ref (ad p))) := by
                have := DGet.k (k := Sum.inr (S p)) hN6.dict
                rw [dkm_get mp] at this
                exact this
              refine ⟨rfl, _, rfl, _, rfl, _, rfl, D, _, rfl, hg, ad p, _, rfl, .inl (SqL.of (hN6.each p mp)), rfl, flat_strs _, _, rfl, ?_⟩
              rw [inV_strs]
              have em : decide (y ∈ nearL pl ts L p) = nearB ts L p y := by
                unfold nearL
                cases c : nearB ts L p y with
                | true => exact decide_eq_true (List.mem_filter.mpr ⟨fr y my, c⟩)
                | false => exact decide_eq_false fun z => by have := (List.mem_filter.mp z).2; rw [c] at this; cases this
              rw [em]
              have fl : (((path ts p r).take j).filter (nearB ts L p)).length ≤ 1000 := by
                have := List.length_filter_le (nearB ts L p) ((path ts p r).take j)
                rw [List.length_take] at this
                omega
              cases c : nearB ts L p y with
              | true =>
                refine iteT ⟨_, rfl, _, hC, by rw [List.length_map, List.length_map]; exact sz_lt (by omega), same_put S6 nC, ?_⟩
                rw [upd_same, ey, List.filter_append, List.filter_cons_of_pos c, List.map_append, List.map_append]
                rfl
              | false =>
                refine iteF ⟨S6, ?_⟩
                rw [ey, List.filter_append, List.filter_cons_of_neg (by rw [c]; decide)]
                simpa using hC
            · obtain ⟨S6, hC⟩ := hP
              rw [List.length_map, List.length_map, List.take_length] at hC
              obtain ⟨⟨fs, ef⟩, _⟩ := hlp_is fine.tree hL r1 mp
              rw [ef, List.map_append, List.map_append] at hC
              have s7 := s5.trans S6
              have hT6 := s7 _ _ hT4
              have ul : us.length ≤ 1000 := by
                rw [hU.len]
                unfold hlps
                rw [List.length_map, List.length_take]
                omega
              refine ⟨_, rfl, .inl ⟨rfl, _, SqL.of hT6⟩, _, rfl, _, rfl, 1, rfl, C, _, -1, .str (S (hlp ts L r p)), rfl, rfl, SqL.of hC, atI_last _ _, (by show 2 ≤ sizeLine; decide), fun e ne2 => ?_⟩
              have Te : T ≠ e := ne_of_none hT6 ne2
              refine ⟨T, _, _, rfl, rfl, by rw [upd_ne Te]; exact hT6, sz_lt (by omega), ?_⟩
              have le : l ≠ e := ne_of_none (s7 _ _ hl4) ne2
              refine ⟨_, _, _, _, us ++ [.ref e], rfl, same_put (same_new (S4.trans s7) ne2) nT, by rw [upd_ne (Ne.symm Tl), upd_ne le]; exact s7 _ _ hl4, fun z' hz' => ?_, upd_same, ?_⟩
              · have h1 := s7 _ _ (hbs4 z' hz')
                rw [upd_ne (ne_of h1 hT6 (by intro w; cases w)), upd_ne (ne_of_none h1 ne2)]
                exact h1
              · rw [et]
                unfold hlps at *
                rw [List.map_append]
                refine HlpAt.snoc ?_ (hU.keep fun p' xs e' => ?_)
                · rw [upd_ne (Ne.symm Te), upd_same]
                · have h1 := s7 _ _ e'
                  rw [upd_ne (ne_of h1 hT6 (by intro w; cases w)), upd_ne (ne_of_none h1 ne2)]
                  exact h1
      · obtain ⟨x4, x5, x6, x7, us, rfl, S4, hl4, hbs4, hT4, hU⟩ := hP
        rw [List.length_map, bl, List.take_length] at hU
        exact ⟨x4, x5, x6, x7, os, us, rfl, S4, O, hT4, hU⟩
    · obtain ⟨x4, x5, x6, x7, os, us, rfl, S4, O, hT4, hU⟩ := hM
      exact ⟨_, rfl, q H' T os us S4 nT O hT4 hU⟩
end
end Far

namespace Far
open PySem PySem.Spec PyProof.Rows L2
open C8 (pss_cut tCut)
open SX (S)
open StX (pa_star tStar)
theorem bt_any : bootBuiltins ("any" : Str) = some (.builtin "any") := by decide +kernel
theorem stepG_in {pl : List Nm} {ts : List Tie} {L : Int} {C : List Nm} {z : Nm × Nm} (hC : ∀ x ∈ C, x ∈ pl) (hz : z.2 ∈ pl) : (∀ x ∈ stepG ts L C z, x ∈ pl) ∧ (stepG ts L C z).length ≤ C.length + 1 := by
  unfold stepG
  by_cases c : C.any (nearB ts L z.1) = true
  · rw [if_pos c]
    exact ⟨hC, by omega⟩
  · rw [if_neg c]
    refine ⟨fun x hx => (List.mem_append.mp hx).elim (hC x) fun w => List.mem_singleton.mp w ▸ hz, ?_⟩
    rw [List.length_append]
    exact Nat.le_refl _
theorem greedy_snoc {ts : List Tie} {L : Int} {C : List Nm} {hs : List (Nm × Nm)} {z : Nm × Nm} : greedy ts L C (hs ++ [z]) = stepG ts L (greedy ts L C hs) z := by
  unfold greedy
  rw [List.foldl_append]
  rfl
section
variable {P : Program} {w : World} {K : PySem.W.Frag} {mg : Str → Option Value} {base : Heap}
def spFewW : Sp := fun vs H Q _ => ∃ (c D h : Addr) (pl C : List Nm) (ts : List Tie) (L : Int) (ad : Nm → Addr) (us : List V) (hs : List (Nm × Nm)), vs = [.ref c, .ref D, .ref h] ∧ H c = some (.lst ((C.map S).map V.str)) ∧ (∀ x ∈ C, x ∈ pl) ∧ C.length ≤ 1000 ∧ NearAt H D pl pl ts L ad ∧ H h = some (.lst us) ∧ HlpAt H us hs ∧ hs.length ≤ 1000 ∧ (∀ z ∈ hs, z.1 ∈ pl ∧ z.2 ∈ pl) ∧
  ∀ H' : Hp, Same H H' → Q (.int ((greedy ts L C hs).length : Nat)) H'
theorem ok_fewest_with {f : Addr} {fd : FuncData} (F : Fun K "_fewest_with" "_fewest_with" s_fewest_with f fd) (T : TxtF mg) : FnOk P w K mg base CX0 1 f fd ["chosen", "near", "helpers"] spFewW := by
  refine F.ok sc_fewest_with (fun vs H Q E h => ?_) (fun cdv A outer s H vs Q E hr h => ?_)
  · obtain ⟨c, D, h, pl, C, ts, L, ad, us, hs, rfl, _⟩ := h
    rfl
  · obtain ⟨c, D, h, pl, C, ts, L, ad, us, hs, rfl, hc, hC, lC, hN, hh, hU, lh, hz, q⟩ := h
    refine ⟨_, (pss_cons (ps_set (i := 3) sc_fewest_with.nd rfl (.inl rfl) (pe_callTy call_list_of (by rfl) T.list bt_list (pa_cons (pv 0) pa_nil)))
      (pss_cut (ps_for PassesOwn.never rfl (pi_list (pv 2)) (pg_tup rfl (pgs_cons (pg_name (i := 4) sc_fewest_with.nd rfl (.inr rfl)) (pgs_cons (pg_name (i := 5) sc_fewest_with.nd rfl (.inl rfl)) pgs_nil)))
        (pss_one (ps_if (pt_not (pt_val (pe_callB (cr_any rfl) (by rfl) T.any bt_any (pa_cons (pe_lc (own := [("there", 6)]) (g := gName 6) (tt := tYes) rfl sc_fewest_with.nd (pi_list (pv 3)) (blkOk_by (N := N_fewest_with) (sc := defScope s_fewest_with) (by decide +kernel)) (fun _ _ _ _ _ => pg_name (i := 6) sc_fewest_with.nd rfl (Or.inl rfl)) (fun _ _ _ _ _ => pts_nil) (fun _ _ _ _ _ => (pe_cmpR (inK (K := K)) (pv 6) (pe_dget (hu_of hr) (pv 1) (pv 4) (fun _ _ => rfl)) rfl))) pa_nil))))
          (pss_one (ps_expr (pe_bm PySem.F.plainAttrs_list PySem.F.slot_list_append PySem.F.type_list_append mt_append (pv 3) (pa_cons (pv 5) pa_nil))))
          pss_nil)))
      (pss_one (ps_ret (pe_callB call_len_seq (by rfl) T.len bt_len (pa_cons (pv 3) pa_nil)))))), ?_⟩
    refine ⟨_, rfl, c, _, rfl, .inl (SqL.of hc), fun T nT => ?_⟩
    have S1 := same_new (o := .lst ((C.map S).map V.str)) (Same.refl H) nT
    refine ⟨fun σ' H' => ∃ (x4 x5 x6 : Option V), σ' = [some (.ref c), some (.ref D), some (.ref h), some (.ref T), x4, x5, x6] ∧ Same H H' ∧ H' T = some (.lst (((greedy ts L C hs).map S).map V.str)), ?_, fun σ' H' hM => ?_⟩
    · refine ⟨_, rfl, h, rfl, ⟨_, SqL.of (S1 _ _ hh)⟩, ?_⟩
      refine for_list (K := K) (a := h) (xs := us) (fun i σ' H' => ∃ (x4 x5 x6 : Option V), σ' = [some (.ref c), some (.ref D), some (.ref h), some (.ref T), x4, x5, x6] ∧ Same H H' ∧ H' T = some (.lst (((greedy ts L C (hs.take i)).map S).map V.str)) ∧ (∀ x ∈ greedy ts L C (hs.take i), x ∈ pl) ∧ (greedy ts L C (hs.take i)).length ≤ C.length + i)
        ⟨_, _, _, rfl, S1, upd_same, hC, Nat.le_refl _⟩ (fun i σ' H' _ hP => ?_) (fun i x σ' H' hi hP => ?_) (fun σ' H' hP => ?_)
      · obtain ⟨_, _, _, _, h1, _⟩ := hP
        exact SqL.of (h1 _ _ hh)
      · obtain ⟨x4, x5, x6, rfl, S2, hT, inn, gl⟩ := hP
        obtain ⟨p, z, ez, rfl, hp⟩ := hU.get hi
        obtain ⟨z1, z2⟩ := hz z (List.mem_of_getElem? ez)
        have il := (List.getElem?_eq_some_iff.mp ez).1
        have et : hs.take (i + 1) = hs.take i ++ [z] := by rw [List.take_add_one, ez]; rfl
        rw [et, greedy_snoc]
        generalize greedy ts L C (hs.take i) = G at *
        obtain ⟨st1, st2⟩ := stepG_in (ts := ts) (L := L) inn z2
        refine ⟨p, _, rfl, SqT.of (S2 _ _ hp), rfl, _, _, rfl, _, _, rfl, rfl, ?_⟩
        refine ⟨_, rfl, T, rfl, ⟨_, SqL.of hT⟩, fun B nB => ?_⟩
        have BT : T ≠ B := ne_of_none hT nB
        refine lc_list (K := K) (a := T) (xs := (G.map S).map V.str) (fun j H'' => Same H H'' ∧ H'' T = some (.lst ((G.map S).map V.str)) ∧ H'' B = some (.lst (((G.take j).map (nearB ts L z.1)).map V.bl))) ⟨same_new S2 nB, by rw [upd_ne BT]; exact hT, upd_same⟩ (fun j H'' _ hP => SqL.of hP.2.1) (fun j v H'' hj hP => ?_) (fun H'' hP => ?_)
        · obtain ⟨S3, hT3, hB3⟩ := hP
          obtain ⟨y, hy, my, rfl, ey⟩ := at_name hj
          have jl := (List.getElem?_eq_some_iff.mp hy).1
          have hN3 := hN.keep S3
          have hg : DGet H'' D (.str (S z.1)) (some (.ref (ad z.1))) := by
            have := DGet.k (k := Sum.inr (S z.1)) hN3.dict
            rw [dkm_get z1] at this
            exact this
          refine ⟨rfl, _, rfl, _, rfl, _, rfl, D, _, rfl, hg, ad z.1, _, rfl, .inl (SqL.of (hN3.each _ z1)), rfl, flat_strs _, ?_⟩
          rw [inV_strs]
          have em : decide (y ∈ nearL pl ts L z.1) = nearB ts L z.1 y := by
            unfold nearL
            cases c : nearB ts L z.1 y with
            | true => exact decide_eq_true (List.mem_filter.mpr ⟨inn y my, c⟩)
            | false => exact decide_eq_false fun w => by have := (List.mem_filter.mp w).2; rw [c] at this; cases this
          rw [em]
          have nBH : H B = none := S2.free nB
          refine ⟨_, hB3, by rw [List.length_map, List.length_map, List.length_take]; exact sz_lt (by omega), same_put S3 nBH, by rw [upd_ne BT]; exact hT3, ?_⟩
          rw [upd_same, ey, List.map_append, List.map_append]
          rfl
        · obtain ⟨S3, hT3, hB3⟩ := hP
          rw [List.length_map, List.length_map, List.take_length] at hB3
          refine ⟨B, _, rfl, SqL.of hB3, _, rfl, ?_⟩
          have ea : (G.map (nearB ts L z.1)).any id = G.any (nearB ts L z.1) := by rw [List.any_map]; rfl
          rw [ea]
          have nTH := nT
          cases c : G.any (nearB ts L z.1) with
          | true =>
            have e : stepG ts L G z = G := if_pos c
            rw [e] at st1 st2 ⊢
            exact iteF ⟨_, _, _, rfl, S3, hT3, inn, by omega⟩
          | false =>
            have e : stepG ts L G z = G ++ [z.2] := if_neg (by rw [c]; decide)
            rw [e] at st1 st2 ⊢
            refine iteT ⟨_, rfl, .inl ⟨rfl, _, SqL.of hT3⟩, _, rfl, T, _, _, rfl, rfl, hT3, by rw [List.length_map, List.length_map]; exact sz_lt (by omega), ?_⟩
            refine ⟨_, _, _, rfl, same_put S3 nT, ?_, st1, by omega⟩
            rw [upd_same, List.map_append, List.map_append]
            rfl
      · obtain ⟨x4, x5, x6, rfl, S2, hT, _⟩ := hP
        rw [hU.len, List.take_length] at hT
        exact ⟨x4, x5, x6, rfl, S2, hT⟩
    · obtain ⟨x4, x5, x6, rfl, S2, hT⟩ := hM
      refine ⟨_, rfl, T, _, rfl, .inl (SqL.of hT), ?_⟩
      have := q H' S2
      rw [List.length_map, List.length_map]
      exact this
/-- the fewest places so near to all, the first in their order: their numbers in the tree's places -/
structure FewIs (pl : List Nm) (ts : List Tie) (L : Int) (g : Nat → Bool) : Prop where
  cov : Cv pl ts L g
  top : ∀ h, Cv pl ts L h → ¬ Better (pk h 0 pl.length) (pk g 0 pl.length)
def spFew : Sp := fun vs H Q _ => ∃ (v : V) (pl : List Nm) (ts : List Tie) (L : Int) (g : Nat → Bool), vs = [v, .int L] ∧ Dt H v (treeD pl ts) ∧ Fine pl ts ∧ 0 ≤ L ∧ FewIs pl ts L g ∧
  ∀ (H' : Hp) (q : Addr), Same H H' → H q = none → H' q = some (.tup (((nms pl (pk g 0 pl.length)).map S).map V.str)) → Q (.ref q) H'
theorem ok_fewest_within {f : Addr} {fd : FuncData} (F : Fun K "fewest_within" "fewest_within" s_fewest_within f fd) (T : TxtF mg) (C_places_near : Cal P w K mg base 4 "_places_near" spNear) (C_helpers : Cal P w K mg base 4 "_helpers" spHelpers) (C_fewest_with : Cal P w K mg base 1 "_fewest_with" spFewW) : FnOk P w K mg base CX0 5 f fd ["tree", "length"] spFew := by
  refine F.ok sc_fewest_within (fun vs H Q E h => ?_) (fun cdv A outer s H vs Q E hr h => ?_)
  · obtain ⟨v, pl, ts, L, g, rfl, _⟩ := h
    rfl
  · obtain ⟨v, pl, ts, L, g, rfl, hd, fine, hL, ⟨cov, top⟩, q⟩ := h
    obtain ⟨t, a, b, vs, rfl, ht, ha, hb, hA⟩ := dt_tree hd
    have pl1 := fine.len
    have nd := fine.tree.nodup
    have ne : 0 < pl.length := by have := fine.tree.len; omega
    obtain ⟨r1, r2⟩ := nm_mem ne
    refine ⟨_, (pss_cons (ps_setDc (i := 3) (own := [("place", 2)]) (g := gName 2) (tt := tYes) rfl sc_fewest_within.nd rfl rfl (swD_true rfl rfl rfl (by decide +kernel)) (pi_tup (pe_ix ix_tup (pv 0) pe_int (fun _ _ => rfl))) (blkOk_by (N := N_fewest_within) (sc := defScope s_fewest_within) (by decide +kernel)) (fun _ _ _ _ _ => pg_name (i := 2) sc_fewest_within.nd rfl (Or.inl rfl)) (fun _ _ _ _ _ => pts_nil) (fun _ _ _ _ _ => (pv 2)) (fun _ _ _ _ _ => (pe_c C_places_near hr (by decide) rfl (pa_cons (pv 0) (pa_cons (pv 2) (pa_cons (pv 1) pa_nil))))))
      (pss_cons (ps_set (i := 4) sc_fewest_within.nd rfl (.inl rfl) (pe_c C_helpers hr (by decide) rfl (pa_cons (pv 0) (pa_cons (pv 3) pa_nil))))
      (pss_cons (ps_set (i := 5) sc_fewest_within.nd rfl (.inl rfl) (pe_c C_fewest_with hr (by decide) rfl (pa_cons (pe_lst pa_nil) (pa_cons (pv 3) (pa_cons (pv 4) pa_nil)))))
      (pss_cons (ps_set (i := 6) sc_fewest_within.nd rfl (.inl rfl) (pe_lst pa_nil))
      (pss_cut (ps_for PassesOwn.never rfl (pi_tup (pe_ix ix_tup (pv 0) pe_int (fun _ _ => rfl))) (pg_name (i := 2) sc_fewest_within.nd rfl (.inl rfl))
        (pss_one (ps_if (pt_cmpR op_eq (pe_c C_fewest_with hr (by decide) rfl (pa_cons (pe_lst (pa_star (pv 6) (pa_cons (pv 2) pa_nil))) (pa_cons (pv 3) (pa_cons (pv 4) pa_nil)))) (pv 5) (nomark _))
          (pss_one (ps_expr (pe_bm PySem.F.plainAttrs_list PySem.F.slot_list_append PySem.F.type_list_append mt_append (pv 6) (pa_cons (pv 2) pa_nil))))
          pss_nil)))
      (pss_one (ps_ret (pe_tupleOf (by rfl) T.tuple (pv 6))))))))), ?_⟩
    refine ⟨_, rfl, t, _, 0, .ref a, rfl, rfl, SqT.of ht, atI_nat (j := 0) rfl, a, rfl, ⟨_, ha.sq⟩, fun D nD => ?_⟩
    have Da : D ≠ a := (ha.ne nD).symm
    refine dc_tup (K := K) (a := a) (xs := (pl.map S).map V.str) (fun i H' => ∃ ad : Nm → Addr, Same H H' ∧ NearAt H' D pl (pl.take i) ts L ad) ⟨fun _ => 0, same_new (Same.refl H) nD, ⟨upd_same, fun l hl => (by cases hl)⟩⟩ (fun i H' _ hP => ?_) (fun i x H' hi hP => ?_) (fun H' hP => ?_)
    · obtain ⟨_, sm, _⟩ := hP
      exact (ha.same sm).sq
    · obtain ⟨ad, sm, bs⟩ := hP
      obtain ⟨l, el, ml, rfl, et⟩ := at_name hi
      have il := (List.getElem?_eq_some_iff.mp el).1
      have ln : l ∉ pl.take i := fun hm => by
        obtain ⟨j, hj, ej⟩ := List.mem_take_iff_getElem.mp hm
        obtain ⟨hi', ei⟩ := List.getElem?_eq_some_iff.mp el
        have := (List.getElem_inj nd).mp (ej.trans ei.symm)
        omega
      refine ⟨rfl, _, rfl, _, rfl, _, rfl, _, rfl, _, pl, ts, l, L, rfl, Dt.keep (TK.of sm) hd, fine, ml, hL, fun H2 p s2 np hp => ?_⟩
      have hD := s2 _ _ bs.dict
      have pD : p ≠ D := (ne_of_none bs.dict np).symm
      refine ⟨_, Sum.inr (S l), rfl, hD, by unfold dkm; rw [List.length_map, List.length_take]; exact sz_lt (by omega), ?_⟩
      rw [dkm_new ln, et]
      refine ⟨fun z => if z = l then p else ad z, same_put (sm.trans s2) nD, ⟨?_, fun m hm => ?_⟩⟩
      · rw [upd_same]
        refine congrArg (fun z => some (HO.dK z)) (dkm_cong fun z _ => ?_)
        by_cases e : z = l <;> simp [e]
      · rcases List.mem_append.mp hm with z | z
        · have ml : m ≠ l := fun e => ln (e ▸ z)
          have h1 := s2 _ _ (bs.each m z)
          rw [if_neg ml, upd_ne (ne_of h1 hD (by intro w; cases w))]
          exact h1
        · rw [List.mem_singleton.mp z, if_pos rfl, upd_ne pD]
          exact hp
    · obtain ⟨ad, S1, hN⟩ := hP
      rw [List.length_map, List.length_map, List.take_length] at hN
      refine ⟨_, rfl, _, rfl, _, D, pl, ts, L, ad, rfl, Dt.keep (TK.of S1) hd, fine, hL, hN, fun H2 h os us s2 nh O hh hU => ?_⟩
      have S2 := S1.trans s2
      have hN2 := hN.keep s2
      have hz : ∀ z ∈ hlps ts L (nm pl 0) os, z.1 ∈ pl ∧ z.2 ∈ pl := fun z hz => by
        obtain ⟨p, hp, rfl⟩ := List.mem_map.mp hz
        have mp := O.perm.mem_iff.mp hp
        exact ⟨mp, (hlp_is fine.tree hL r1 mp).2.2.1⟩
      have lh : (hlps ts L (nm pl 0) os).length ≤ 1000 := by
        unfold hlps
        rw [List.length_map, O.perm.length_eq]
        exact pl1
      obtain ⟨few, each⟩ := fewest_first fine.tree hL r1 O cov top
      refine ⟨Nat.zero_le _, fun e ne1 => ?_⟩
      have hD2 := hN2.dict
      have h3 : Same H2 (upd H2 e (.lst [])) := same_new (Same.refl H2) ne1
      have hU3 : HlpAt (upd H2 e (.lst [])) us (hlps ts L (nm pl 0) os) := hU.keep fun p xs w => h3 _ _ w
      refine ⟨_, rfl, _, rfl, e, D, h, pl, [], ts, L, ad, us, _, rfl, upd_same, (fun x hx => by cases hx), Nat.zero_le _, hN2.keep h3, h3 _ _ hh, hU3, lh, hz, fun H3 s3 => ?_⟩
      have s23 := h3.trans s3
      have S3 := S2.trans s23
      rw [few]
      refine ⟨Nat.zero_le _, fun c nc => ?_⟩
      have S4 := same_new (o := .lst []) S3 nc
      have s34 := same_new (o := .lst []) s23 nc
      have ncH : H c = none := S3.free nc
      refine ⟨fun σ' H' => ∃ x2 : Option V, σ' = [some (.ref t), some (.int L), x2, some (.ref D), some (.ref h), some (.int ((pk g 0 pl.length).length : Nat)), some (.ref c)] ∧ Same H H' ∧ H' c = some (.lst (((nms pl (pk g 0 pl.length)).map S).map V.str)), ?_, fun σ' H' hM => ?_⟩
      · refine ⟨_, rfl, t, _, 0, .ref a, rfl, rfl, SqT.of (S4 _ _ ht), atI_nat (j := 0) rfl, a, rfl, ⟨_, (ha.same S4).sq⟩, ?_⟩
        refine for_tup (K := K) (a := a) (xs := (pl.map S).map V.str) (fun i σ' H' => ∃ x2 : Option V, σ' = [some (.ref t), some (.int L), x2, some (.ref D), some (.ref h), some (.int ((pk g 0 pl.length).length : Nat)), some (.ref c)] ∧ Same H H' ∧ NearAt H' D pl pl ts L ad ∧ H' h = some (.lst us) ∧ HlpAt H' us (hlps ts L (nm pl 0) os) ∧ H' c = some (.lst (((nms pl (pk g 0 i)).map S).map V.str)))
          ⟨_, rfl, S4, hN2.keep s34, s34 _ _ hh, hU.keep fun p xs w => s34 _ _ w, upd_same⟩ (fun i σ' H' _ hP => ?_) (fun i x σ' H' hi hP => ?_) (fun σ' H' hP => ?_)
        · obtain ⟨_, _, h1, _⟩ := hP
          exact (ha.same h1).sq
        · obtain ⟨x2, rfl, S5, hN5, hh5, hU5, hc5⟩ := hP
          obtain ⟨l, el, ml, rfl, et⟩ := at_name hi
          have il := (List.getElem?_eq_some_iff.mp el).1
          have enm : nm pl i = l := by
            have := (nm_mem il).2
            rw [el] at this
            exact (Option.some.inj this).symm
          have pkl : (pk g 0 i).length ≤ i := by
            have := List.length_filter_le g (List.range' 0 i)
            rw [List.length_range'] at this
            exact this
          have inP : ∀ x ∈ nms pl (pk g 0 i) ++ [l], x ∈ pl := fun x hx => by
            rcases List.mem_append.mp hx with z | z
            · obtain ⟨j, hj, rfl⟩ := List.mem_map.mp z
              have := (pk_mem.mp hj).1
              exact (nm_mem (by omega)).1
            · rw [List.mem_singleton.mp z]
              exact ml
          have nl : (nms pl (pk g 0 i)).length ≤ i := by unfold nms; rw [List.length_map]; exact pkl
          refine ⟨_, rfl, c, _, rfl, .inr (SqL.of hc5), _, rfl, by rw [List.length_append, List.length_map, List.length_map]; exact Nat.le_of_lt (sz_lt (by show _ + 1 ≤ 100000; omega)), fun e2 ne2 => ?_⟩
          have sn := same_new (o := .lst (((nms pl (pk g 0 i)).map S).map V.str ++ [.str (S l)])) (Same.refl H') ne2
          have ec : ((nms pl (pk g 0 i)).map S).map V.str ++ [V.str (S l)] = ((nms pl (pk g 0 i) ++ [l]).map S).map V.str := by
            rw [List.map_append, List.map_append]
            rfl
          rw [ec] at sn ⊢
          refine ⟨_, rfl, _, rfl, e2, D, h, pl, nms pl (pk g 0 i) ++ [l], ts, L, ad, us, _, rfl, upd_same, inP, by rw [List.length_append]; show _ + 1 ≤ 1000; omega, hN5.keep sn, sn _ _ hh5, hU5.keep fun p xs w => sn _ _ w, lh, hz, fun H6 s6 => ?_⟩
          have S6 := (S5.trans sn).trans s6
          have s56 := sn.trans s6
          have hc6 := s56 _ _ hc5
          refine ⟨_, rfl, rfl, _, rfl, ?_⟩
          have hi2 := each i il
          rw [enm] at hi2
          rw [pk_succ]
          by_cases c1 : g i = true
          · rw [decide_eq_true (show V.int (((greedy ts L (nms pl (pk g 0 i) ++ [l]) (hlps ts L (nm pl 0) os)).length : Nat) : Int) = V.int (((pk g 0 pl.length).length : Nat) : Int) by rw [hi2.mpr c1]), if_pos c1]
            have sp := same_put (o := .lst ((((nms pl (pk g 0 i))).map S).map V.str ++ [.str (S l)])) S6 ncH
            refine iteT ⟨_, rfl, .inl ⟨rfl, _, SqL.of hc6⟩, _, rfl, c, _, _, rfl, rfl, hc6, by rw [List.length_map, List.length_map]; exact sz_lt (by omega), ?_⟩
            have kk : ∀ {b : Addr} {o : HO}, H6 b = some o → b ≠ c → (upd H6 c (.lst ((((nms pl (pk g 0 i))).map S).map V.str ++ [.str (S l)]))) b = some o := fun w n => by rw [upd_ne n]; exact w
            have ca : ∀ x ∈ pl, ad x ≠ c := fun x hx => ne_of_none (s23 _ _ (hN2.each x hx)) nc
            refine ⟨_, rfl, sp, ⟨kk (s56 _ _ hN5.dict) ?_, fun x hx => kk (s56 _ _ (hN5.each x hx)) (ca x hx)⟩, kk (s56 _ _ hh5) ?_, hU5.keep (fun p xs w => kk (s56 _ _ w) (ne_of (s56 _ _ w) hc6 (by intro w; cases w))), ?_⟩
            · exact ne_of (s56 _ _ hN5.dict) hc6 (by intro w; cases w)
            · exact ne_of_none (s23 _ _ hh) nc
            · rw [upd_same, ec]
              have e4 : nms pl (pk g 0 i ++ [i]) = nms pl (pk g 0 i) ++ [l] := by
                unfold nms
                rw [List.map_append, List.map_singleton, enm]
              rw [e4]
          · rw [decide_eq_false (fun z => c1 (hi2.mp (by have := V.int.inj z; omega))), if_neg c1, List.append_nil]
            exact iteF ⟨_, rfl, S6, hN5.keep s56, s56 _ _ hh5, hU5.keep (fun p xs w => s56 _ _ w), hc6⟩
        · obtain ⟨x2, rfl, S5, _, _, _, hc5⟩ := hP
          rw [List.length_map, List.length_map] at hc5
          exact ⟨x2, rfl, S5, hc5⟩
      · obtain ⟨x2, rfl, S5, hc5⟩ := hM
        refine ⟨_, rfl, .inl ⟨c, _, rfl, SqL.of hc5, fun r nr => ?_⟩⟩
        exact q _ r (same_new S5 nr) (S5.free nr) upd_same
end
end Far

namespace Far
open PySem PySem.Spec PyProof.Rows L2
open SX (S)
/-! ### places picked by the bits of a number; near places by bits -/
def wN (g : Nat → Bool) : Nat → Nat
  | 0 => 0
  | k + 1 => 2 * wN g k + (if g k = true then 1 else 0)
theorem wN_lt (g : Nat → Bool) : ∀ n, wN g n < 2 ^ n
  | 0 => (by decide : 0 < 2 ^ 0)
  | n + 1 => by
    have := wN_lt g n
    show 2 * wN g n + (if g n = true then 1 else 0) < 2 ^ (n + 1)
    rw [Nat.pow_succ]
    by_cases c : g n = true
    · rw [if_pos c]; omega
    · rw [if_neg c]; omega
theorem wN_bit {g : Nat → Bool} : ∀ {n a : Nat}, a < n → (wN g n).testBit (n - 1 - a) = g a
  | 0, a, h => by omega
  | n + 1, a, h => by
    have lt : (if g n = true then 1 else 0) < 2 ^ 1 := by by_cases c : g n = true <;> simp [c]
    have e : wN g (n + 1) = 2 ^ 1 * wN g n + (if g n = true then 1 else 0) := rfl
    rw [e, Nat.testBit_two_pow_mul_add _ lt]
    by_cases c : a = n
    · subst c
      rw [if_pos (by omega)]
      have : a + 1 - 1 - a = 0 := by omega
      rw [this]
      cases g a <;> decide
    · rw [if_neg (by omega)]
      have : n + 1 - 1 - a - 1 = n - 1 - a := by omega
      rw [this]
      exact wN_bit (by omega)
theorem wN_sum {g : Nat → Bool} {n : Nat} : ∀ i, i ≤ n → (((List.range i).filter g).map fun a => 2 ^ (n - 1 - a)).sum = wN g i * 2 ^ (n - i)
  | 0, _ => by simp [wN]
  | i + 1, h => by
    rw [List.range_succ, List.filter_append, List.map_append, List.sum_append, wN_sum i (by omega)]
    show _ = (2 * wN g i + (if g i = true then 1 else 0)) * 2 ^ (n - (i + 1))
    have e : 2 ^ (n - i) = 2 * 2 ^ (n - (i + 1)) := by
      rw [show n - i = n - (i + 1) + 1 by omega, Nat.pow_succ]
      omega
    have e2 : n - 1 - i = n - (i + 1) := by omega
    rw [e, Nat.add_mul]
    cases c : g i with
    | true =>
      rw [List.filter_cons_of_pos c]
      simp [e2]
      rw [Nat.mul_comm 2 (wN g i), Nat.mul_assoc]
    | false =>
      rw [List.filter_cons_of_neg (by rw [c]; decide)]
      simp
      rw [Nat.mul_comm 2 (wN g i), Nat.mul_assoc]
def gO (n o : Nat) : Nat → Bool := fun a => o.testBit (n - 1 - a)
theorem gO_is (n o a : Nat) : gO n o a = decide (o / 2 ^ (n - 1 - a) % 2 = 1) := by
  unfold gO
  rw [Nat.testBit_eq_decide_div_mod_eq]
/-- near places, a bit for each -/
noncomputable def mkN (pl : List Nm) (ts : List Tie) (L : Int) (u : Nm) : Nat := wN (fun k => nearB ts L u (nm pl k)) pl.length
noncomputable def seenN (pl : List Nm) (ts : List Tie) (L : Int) (I : List Nat) : Nat := I.foldl (fun s a => s ||| mkN pl ts L (nm pl a)) 0
theorem fold_bit {f : Nat → Nat} {j : Nat} : ∀ (I : List Nat) (s : Nat), (I.foldl (fun s a => s ||| f a) s).testBit j = (s.testBit j || I.any fun a => (f a).testBit j)
  | [], s => by simp
  | a :: I, s => by
    rw [List.foldl_cons, fold_bit I, Nat.testBit_or, List.any_cons, Bool.or_assoc]
theorem fold_lt {f : Nat → Nat} {n : Nat} (hf : ∀ a, f a < 2 ^ n) : ∀ (I : List Nat) (s : Nat), s < 2 ^ n → I.foldl (fun s a => s ||| f a) s < 2 ^ n
  | [], s, h => h
  | a :: I, s, h => fold_lt hf I _ (Nat.or_lt_two_pow h (hf a))
theorem seen_full {pl : List Nm} {ts : List Tie} {L : Int} {g : Nat → Bool} : seenN pl ts L (pk g 0 pl.length) = 2 ^ pl.length - 1 ↔ Cv pl ts L g := by
  have bit : ∀ k < pl.length, (seenN pl ts L (pk g 0 pl.length)).testBit (pl.length - 1 - k) = (pk g 0 pl.length).any fun a => nearB ts L (nm pl a) (nm pl k) := fun k hk => by
    unfold seenN
    rw [fold_bit, Nat.zero_testBit, Bool.false_or]
    congr 1
    funext a
    exact wN_bit hk
  constructor
  · intro e k hk
    have h := bit k hk
    rw [e, Nat.testBit_two_pow_sub_one, decide_eq_true (by omega)] at h
    obtain ⟨a, ha, na⟩ := List.any_eq_true.mp h.symm
    have := pk_mem.mp ha
    exact ⟨a, by omega, this.2, of_decide_eq_true na⟩
  · intro h
    refine Nat.eq_of_testBit_eq fun i => ?_
    rw [Nat.testBit_two_pow_sub_one]
    by_cases hi : i < pl.length
    · have b := bit (pl.length - 1 - i) (by omega)
      rw [show pl.length - 1 - (pl.length - 1 - i) = i by omega] at b
      rw [b, decide_eq_true hi]
      obtain ⟨a, ha, ga, d⟩ := h (pl.length - 1 - i) (by omega)
      exact List.any_eq_true.mpr ⟨a, pk_mem.mpr ⟨⟨Nat.zero_le _, by omega⟩, ga⟩, decide_eq_true d⟩
    · rw [decide_eq_false hi]
      refine Nat.testBit_lt_two_pow (Nat.lt_of_lt_of_le ?_ (Nat.pow_le_pow_right (by decide) (Nat.le_of_not_lt hi)))
      exact fold_lt (fun a => wN_lt _ _) _ _ (Nat.pow_pos (by decide))
theorem pk_cong {g h : Nat → Bool} {s n : Nat} (e : ∀ a, s ≤ a → a < s + n → g a = h a) : pk g s n = pk h s n := List.filter_congr fun a ha => by
  have := List.mem_range'_1.mp ha
  exact e a this.1 this.2
theorem Cv.cong {pl : List Nm} {ts : List Tie} {L : Int} {g h : Nat → Bool} (e : ∀ a < pl.length, g a = h a) (c : Cv pl ts L g) : Cv pl ts L h := fun k hk => by
  obtain ⟨a, ha, ga, d⟩ := c k hk
  exact ⟨a, ha, by rw [← e a ha]; exact ga, d⟩
theorem Better.trans {I J K : List Nat} (h1 : Better I J) (h2 : Better J K) : Better I K := by
  rcases h1 with a | ⟨a, b⟩ <;> rcases h2 with c | ⟨c, d⟩
  · exact .inl (by omega)
  · exact .inl (by omega)
  · exact .inl (by omega)
  · exact .inr ⟨by omega, List.lt_trans b d⟩
theorem Better.irrefl {I : List Nat} (h : Better I I) : False := by
  rcases h with a | ⟨_, b⟩
  · omega
  · exact List.lt_irrefl _ b
/-- the best of those picked so far -/
def SrAt (pl : List Nm) (ts : List Tie) (L : Int) (m : Nat) (best : Option (List Nat)) : Prop :=
  (best = none → ∀ o, 1 ≤ o → o < m → ¬ Cv pl ts L (gO pl.length o)) ∧ ∀ B, best = some B → ∃ o, 1 ≤ o ∧ o < m ∧ B = pk (gO pl.length o) 0 pl.length ∧ Cv pl ts L (gO pl.length o) ∧ ∀ o', 1 ≤ o' → o' < m → Cv pl ts L (gO pl.length o') → ¬ Better (pk (gO pl.length o') 0 pl.length) B
theorem SrAt.keep {pl : List Nm} {ts : List Tie} {L : Int} {m : Nat} {best : Option (List Nat)} (h : SrAt pl ts L m best) (k : Cv pl ts L (gO pl.length m) → ∃ B, best = some B ∧ ¬ Better (pk (gO pl.length m) 0 pl.length) B) : SrAt pl ts L (m + 1) best := by
  refine ⟨fun e o h1 h2 c => ?_, fun B e => ?_⟩
  · by_cases eo : o = m
    · subst eo
      obtain ⟨B, e2, _⟩ := k c
      rw [e] at e2
      cases e2
    · exact h.1 e o h1 (by omega) c
  · obtain ⟨o, h1, h2, h3, h4, h5⟩ := h.2 B e
    refine ⟨o, h1, by omega, h3, h4, fun o' g1 g2 c => ?_⟩
    by_cases eo : o' = m
    · subst eo
      obtain ⟨B', e2, nb⟩ := k c
      rw [e] at e2
      cases e2
      exact nb
    · exact h5 o' g1 (by omega) c
theorem SrAt.new {pl : List Nm} {ts : List Tie} {L : Int} {m : Nat} {best : Option (List Nat)} (h : SrAt pl ts L m best) (m1 : 1 ≤ m) (c : Cv pl ts L (gO pl.length m)) (k : ∀ B, best = some B → Better (pk (gO pl.length m) 0 pl.length) B) : SrAt pl ts L (m + 1) (some (pk (gO pl.length m) 0 pl.length)) := by
  refine ⟨fun e => (by cases e), fun B e => ?_⟩
  cases e
  refine ⟨m, m1, by omega, rfl, c, fun o' g1 g2 c' b => ?_⟩
  by_cases eo : o' = m
  · subst eo
    exact b.irrefl
  · cases eb : best with
    | none => exact h.1 eb o' g1 (by omega) c'
    | some B =>
      obtain ⟨o, _, _, _, _, h5⟩ := h.2 B eb
      exact h5 o' g1 (by omega) c' (b.trans (k B eb))
theorem SrAt.done {pl : List Nm} {ts : List Tie} {L : Int} {best : Option (List Nat)} (hL : 0 ≤ L) (F : IsTree pl ts) (h : SrAt pl ts L (2 ^ pl.length) best) : ∃ g, best = some (pk g 0 pl.length) ∧ FewIs pl ts L g := by
  have ne : 0 < pl.length := by have := F.len; omega
  have own : ∀ g, Cv pl ts L g → ∃ o, 1 ≤ o ∧ o < 2 ^ pl.length ∧ ∀ a < pl.length, gO pl.length o a = g a := fun g c => by
    refine ⟨wN g pl.length, Nat.one_le_iff_ne_zero.mpr fun z => ?_, wN_lt _ _, fun a ha => wN_bit ha⟩
    obtain ⟨a, ha, ga, _⟩ := c 0 ne
    have := wN_bit (g := g) ha
    rw [z, Nat.zero_testBit, ga] at this
    cases this
  have pkE : ∀ {g h : Nat → Bool}, (∀ a < pl.length, g a = h a) → pk g 0 pl.length = pk h 0 pl.length := fun e => pk_cong fun a _ ha => e a (by omega)
  cases best with
  | none =>
    exfalso
    have call : Cv pl ts L fun _ => true := fun k hk => ⟨k, hk, rfl, by rw [(F.dist_self _).1]; exact hL⟩
    obtain ⟨o, o1, o2, o3⟩ := own _ call
    exact h.1 rfl o o1 o2 (call.cong fun a ha => (o3 a ha).symm)
  | some B =>
    obtain ⟨o, o1, o2, o3, o4, o5⟩ := h.2 B rfl
    refine ⟨_, by rw [o3], o4, fun g cg b => ?_⟩
    obtain ⟨o', p1, p2, p3⟩ := own g cg
    refine o5 o' p1 p2 (cg.cong fun a ha => (p3 a ha).symm) ?_
    rw [pkE p3, o3]
    exact b
def iL (I : List Nat) : List Int := I.map fun (n : Nat) => (n : Int)
theorem iL_lt : ∀ I J : List Nat, iL I < iL J ↔ I < J
  | [], [] => by simp [iL]
  | [], _ :: _ => by simp [iL]
  | _ :: _, [] => by simp [iL]
  | i :: I, j :: J => by
    have ih := iL_lt I J
    show ((i : Int) :: iL I) < ((j : Int) :: iL J) ↔ _
    rw [List.cons_lt_cons_iff, List.cons_lt_cons_iff, ih]
    constructor
    · rintro (h | ⟨h, k⟩)
      · exact .inl (by omega)
      · exact .inr ⟨by omega, k⟩
    · rintro (h | ⟨h, k⟩)
      · exact .inl (by omega)
      · exact .inr ⟨by omega, k⟩
end Far

namespace Far
open PySem PySem.Spec PyProof.Rows L2 LamX
open C8 (pss_cut tCut)
open SX (S)
/-! ### what stands but for tables -/
/-- the pairs, farthest first, equally far ones in their order -/
noncomputable def byFar (pl : List Nm) (ts : List Tie) : List Tri := (pairsOf pl ts).mergeSort fun x y => decide (-x.1 ≤ -y.1)
theorem byFar_len (pl : List Nm) (ts : List Tie) : (byFar pl ts).length = (pairsOf pl ts).length := List.length_mergeSort _
noncomputable def nthD (pl : List Nm) (ts : List Tie) (n : Int) : PyData := if 0 ≤ n then match (byFar pl ts)[n.toNat]? with | some x => triD x | none => .none else .none
open Classical in
/-- sorted alike: values and what they read as -/
theorem dtall_sort {H : Hp} {ws : List V} {ps : List Tri} (h : DtAll H ws (ps.map triD)) :
    DtAll H (ws.mergeSort fun y z => decide (-(fstK H y) ≤ -(fstK H z))) ((ps.mergeSort fun x y => decide (-x.1 ≤ -y.1)).map triD) ∧ ∀ y ∈ ws, ∃ t zs, y = V.ref t ∧ H t = some (.tup (.int (fstK H y) :: zs)) := by
  have hl := DtAll.len h
  rw [List.length_map] at hl
  have at_ : ∀ q ∈ ws.zip ps, Dt H q.1 (triD q.2) := fun q hq => by
    obtain ⟨i, hi⟩ := List.getElem?_of_mem hq
    rw [List.getElem?_zip_eq_some] at hi
    obtain ⟨d, h1, h2⟩ := DtAll.get h hi.1
    rw [List.getElem?_map, hi.2] at h1
    cases h1
    exact h2
  have key : ∀ q ∈ ws.zip ps, fstK H q.1 = q.2.1 ∧ ∃ t zs, q.1 = V.ref t ∧ H t = some (.tup (.int q.2.1 :: zs)) := fun q hq => by
    obtain ⟨u, e, hu⟩ := dt_tri (at_ q hq)
    rw [e]
    exact ⟨fstK_is hu, u, _, rfl, hu⟩
  have e1 : (ws.zip ps).map (·.1) = ws := by rw [List.map_fst_zip]; omega
  have e2 : (ws.zip ps).map (·.2) = ps := by rw [List.map_snd_zip]; omega
  refine ⟨?_, fun y hy => ?_⟩
  · have m1 := List.map_mergeSort (r := fun p q : V × Tri => decide (-p.2.1 ≤ -q.2.1)) (s := fun y z => decide (-(fstK H y) ≤ -(fstK H z))) (f := fun q : V × Tri => q.1) (l := ws.zip ps) (fun a ha b hb => by
      rw [(key a ha).1, (key b hb).1])
    have m2 := List.map_mergeSort (r := fun p q : V × Tri => decide (-p.2.1 ≤ -q.2.1)) (s := fun x y : Tri => decide (-x.1 ≤ -y.1)) (f := fun q : V × Tri => q.2) (l := ws.zip ps) (fun a _ b _ => rfl)
    rw [e1] at m1
    rw [e2] at m2
    rw [← m1, ← m2]
    have all : ∀ l : List (V × Tri), (∀ q ∈ l, Dt H q.1 (triD q.2)) → DtAll H (l.map (·.1)) ((l.map (·.2)).map triD) := fun l => by
      induction l with
      | nil => exact fun _ => .nil
      | cons q l ih => exact fun hq => .cons (hq q List.mem_cons_self) (ih fun q' h' => hq q' (List.mem_cons_of_mem _ h'))
    exact all _ fun q hq => at_ q (List.mem_mergeSort.mp hq)
  · rw [← e1] at hy
    obtain ⟨q, hq, rfl⟩ := List.mem_map.mp hy
    obtain ⟨k1, t, zs, k2, k3⟩ := key q hq
    exact ⟨t, zs, k2, by rw [k1]; exact k3⟩

section
variable {P : Program} {w : World} {K : PySem.W.Frag} {mg : Str → Option Value} {base : Heap}
end
structure TxtN (mg : Str → Option Value) : Prop where
  len : mg "len" = none
  sorted : mg "sorted" = none
abbrev s_nth_farthest : Stmt := topS 16
abbrev N_nth_farthest : List Str := ["tree", "place", "pairs"]
theorem sc_nth_farthest : FnScope N_nth_farthest ["tree", "place"] (defScope s_nth_farthest) := ⟨rfl, rfl, rfl, by decide +kernel, rfl, by decide +kernel, by decide +kernel⟩
def qLam : Str := ("nth_farthest" : Str) ++ ".<locals>." ++ "<lambda>"
section
variable {P : Program} {w : World} {K : PySem.W.Frag} {mg : Str → Option Value} {base : Heap} {TL : List (Addr × Str)}
def spNth (TL : List (Addr × Str)) : Sp := fun vs H Q _ => ∃ (v : V) (pl : List Nm) (ts : List Tie) (n : Int), vs = [v, .int n] ∧ Dt H v (treeD pl ts) ∧ Fine pl ts ∧ Tabs TL H ∧ ∀ (H' : Hp) (r : V), ExtN H H' → Tabs TL H' → Dt H' r (nthD pl ts n) → Q r H'
theorem ok_nth {f c Pt : Addr} {fd : FuncData} (F : FunC K "nth_farthest" "nth_farthest" s_nth_farthest f fd c) (T : TxtN mg) (hmN : (Pt, qLam) ∈ TL) (huN : ∀ p ∈ TL, p.1 = Pt → p.2 = qLam) (TB : TabB base mg c Pt) (Cpairs_in_order : Cal P w K mg base 4 "pairs_in_order" spPio) : FnOk P w K mg base CX0 5 f fd ["tree", "place"] (spNth TL) := by
  refine F.ok sc_nth_farthest (fun vs H Q E h => ?_) (fun A outer s H vs Q E hr h => ?_)
  · obtain ⟨v, pl, ts, n, rfl, _⟩ := h
    rfl
  · obtain ⟨v, pl, ts, n, rfl, hd, fine, hT, q⟩ := h
    refine ⟨_, (pss_cons (ps_set (i := 2) sc_nth_farthest.nd rfl (.inl rfl) (pe_callL TB (by rfl) hmN huN (cr_sortedLam (y := "pair") (g := fun i => -i) (hr.mono (by decide)) (by exact ⟨rfl, rfl, rfl, by decide, by decide, rfl⟩) body_neg (fun _ _ _ _ _ => rfl)) (by rfl) T.sorted bt_sorted (pa_cons (pe_c Cpairs_in_order hr (by decide) rfl (pa_cons (pv 0) pa_nil)) pa_nil) (by rfl) (by decide)))
      (pss_cut (ps_if (pt_chain op_le op_lt pe_int (pv 1) (pe_callB call_len_seq (by rfl) T.len bt_len (pa_cons (pv 2) pa_nil)))
        (pss_one (ps_ret (pe_ix ix_list (pv 2) (pv 1) (fun _ _ => rfl))))
        pss_nil)
      (pss_one (ps_ret pe_non)))), ?_⟩
    refine ⟨_, rfl, v, pl, ts, rfl, hd, fine, fun H1 D ws S1 nD hD hW => ?_⟩
    refine ⟨hT.ext S1, fun H2 e2 T2 => ?_⟩
    have hW2 := DtAll.keep (TK.ofN e2) hW
    obtain ⟨srt, key⟩ := dtall_sort hW2
    refine ⟨D, ws, fstK H2, rfl, SqL.of (e2 _ _ hD (fun ps z => by cases z)), key, fun p np => ?_⟩
    have hl : (ws.mergeSort fun y z => decide (-fstK H2 y ≤ -fstK H2 z)).length = (byFar pl ts).length := by
      have := DtAll.len srt
      rw [List.length_map] at this
      exact this
    show _
    generalize ess : (ws.mergeSort fun y z => decide (-fstK H2 y ≤ -fstK H2 z)) = ss at srt hl
    have T3 : Tabs TL (upd H2 p (.lst ss)) := Tabs.ext T2 fun b o h => by rw [upd_ne (ne_of_none h np)]; exact h
    have e3 : ExtN H (upd H2 p (.lst ss)) := fun b o h n => by
      have h2 := e2 b o (S1 b o h) n
      rw [upd_ne (ne_of_none h2 np)]
      exact h2
    have srt3 := DtAll.keep (TK.new (o := .lst ss) np) srt
    have hp : (upd H2 p (.lst ss)) p = some (.lst ss) := upd_same
    simp only [ess]
    generalize upd H2 p (.lst ss) = H3 at T3 e3 srt3 hp
    refine ⟨fun σ' H' => H' = H3 ∧ nthD pl ts n = .none, ?_, fun σ' H' hM => ?_⟩
    · refine ⟨_, rfl, _, _, rfl, rfl, _, rfl, ?_⟩
      by_cases c0 : 0 ≤ n
      · rw [if_pos (decide_eq_true c0)]
        refine ⟨_, rfl, p, _, rfl, .inl (SqL.of hp), _, _, rfl, rfl, _, rfl, ?_⟩
        refine ite2 (fun z => ?_) (fun z => ?_)
        · have z : n < (ss.length : Int) := of_decide_eq_true z
          have lt : n.toNat < ss.length := by omega
          have hn : ss[n.toNat]? = some ss[n.toNat] := List.getElem?_eq_getElem lt
          generalize ss[n.toNat] = v1 at hn
          have hv1 : atI ss n = some v1 := by
            have e : n = ((n.toNat : Nat) : Int) := by omega
            rw [e]
            exact atI_nat (by simpa using hn)
          refine ⟨_, rfl, _, rfl, p, _, n, v1, rfl, rfl, SqL.of hp, hv1, ?_⟩
          refine q _ _ e3 T3 ?_
          obtain ⟨d, h1, h2⟩ := DtAll.get srt3 hn
          unfold nthD
          rw [if_pos c0]
          rw [List.getElem?_map] at h1
          show Dt _ _ (match (byFar pl ts)[n.toNat]? with | some x => triD x | none => .none)
          cases eb : (byFar pl ts)[n.toNat]? with
          | none =>
            have : ((pairsOf pl ts).mergeSort fun x y => decide (-x.1 ≤ -y.1))[n.toNat]? = none := eb
            rw [this] at h1
            cases h1
          | some x =>
            have : ((pairsOf pl ts).mergeSort fun x y => decide (-x.1 ≤ -y.1))[n.toNat]? = some x := eb
            rw [this] at h1
            cases h1
            exact h2
        · refine ⟨rfl, ?_⟩
          have z : ¬ n < (ss.length : Int) := of_decide_eq_false (by simpa using z)
          unfold nthD
          rw [if_pos c0]
          have : (byFar pl ts)[n.toNat]? = none := List.getElem?_eq_none (by omega)
          rw [this]
      · rw [if_neg (by simpa using c0)]
        refine ⟨_, rfl, ?_⟩
        refine iteF ⟨rfl, ?_⟩
        unfold nthD
        rw [if_neg c0]
    · obtain ⟨rfl, hN⟩ := hM
      exact q _ _ e3 T3 (by rw [hN]; exact .non)
end
end Far

namespace Far
open PySem PySem.Spec PyProof.Rows L2
open C8 (pss_cut tCut)
open SX (S)
structure TxtM09 (mg : Str → Option Value) : Prop where
  len : mg "len" = none
  max : mg "max" = none
  range : mg "range" = none
/-- how many are n, how many are greater -/
def cntD (ls : List Int) (n : Int) : PyData := .tuple [.int ((ls.countP fun z => z == n : Nat) : Int), .int ((ls.filter fun z => decide (z > n)).length : Nat)]
theorem eqV_int (a b : Int) : eqV (.int a) (.int b) = (a == b) := rfl
theorem filt_snoc {ls : List Int} {p : Int → Bool} {i : Nat} {x : Int} (h : ls.take (i + 1) = ls.take i ++ [x]) : (ls.take (i + 1)).filter p = (ls.take i).filter p ++ (if p x = true then [x] else []) := by
  rw [h, List.filter_append]
  by_cases c : p x = true
  · rw [if_pos c, List.filter_cons, if_pos c]
    rfl
  · rw [if_neg c, List.filter_cons, if_neg c]
    rfl
abbrev s_count_so_far : Stmt := topS 17
abbrev N_count_so_far : List Str := ["tree", "length", "lengths", "pair", "found"]
theorem sc_count_so_far : FnScope N_count_so_far ["tree", "length"] (defScope s_count_so_far) := ⟨rfl, rfl, rfl, by decide +kernel, rfl, by decide +kernel, by decide +kernel⟩
section
variable {P : Program} {w : World} {K : PySem.W.Frag} {mg : Str → Option Value} {base : Heap}
def spCount : Sp := fun vs H Q _ => ∃ (v : V) (pl : List Nm) (ts : List Tie) (n : Int), vs = [v, .int n] ∧ Dt H v (treeD pl ts) ∧ Fine pl ts ∧ ∀ (H' : Hp) (r : V), Same H H' → Dt H' r (cntD (lensOf pl ts) n) → Q r H'
theorem ok_count {f : Addr} {fd : FuncData} (F : Fun K "count_so_far" "count_so_far" s_count_so_far f fd) (T : TxtM09 mg) (Cpairs_in_order : Cal P w K mg base 4 "pairs_in_order" spPio) : FnOk P w K mg base CX0 5 f fd ["tree", "length"] spCount := by
  refine F.ok sc_count_so_far (fun vs H Q E h => ?_) (fun cdv A outer s H vs Q E hr h => ?_)
  · obtain ⟨v, pl, ts, n, rfl, _⟩ := h
    rfl
  · obtain ⟨v, pl, ts, n, rfl, hd, fine, q⟩ := h
    have ll := lens_len fine
    refine ⟨_, (pss_cons (ps_setLc (i := 2) (own := [("pair", 3)]) (g := gName 3) (tt := tYes) rfl sc_count_so_far.nd rfl rfl (sw_true rfl rfl rfl (by decide +kernel)) (pi_list (pe_c Cpairs_in_order hr (by decide) rfl (pa_cons (pv 0) pa_nil))) (blkOk_by (N := N_count_so_far) (sc := defScope s_count_so_far) (by decide +kernel)) (fun _ _ _ _ _ => pg_name (i := 3) sc_count_so_far.nd rfl (Or.inl rfl)) (fun _ _ _ _ _ => pts_nil) (fun _ _ _ _ _ => (pe_ix (ixt (K := K)) (pv 3) pe_int (fun _ _ => rfl))))
      (pss_one (ps_ret (pe_tup (pa_cons (pe_bm PySem.F.plainAttrs_list PySem.F.slot_list_count PySem.F.type_list_count mt_countV (pv 2) (pa_cons (pv 1) pa_nil)) (pa_cons (pe_callB call_len_seq (by rfl) T.len bt_len (pa_cons (pe_lc (own := [("found", 4)]) (g := gName 4)  rfl sc_count_so_far.nd (pi_list (pv 2)) (blkOk_by (N := N_count_so_far) (sc := defScope s_count_so_far) (by decide +kernel)) (fun _ _ _ _ _ => pg_name (i := 4) sc_count_so_far.nd rfl (Or.inl rfl)) (fun _ _ _ _ _ => pts_one (pt_cmpR op_gt (pv 4) (pv 1) (nomark _))) (fun _ _ _ _ _ => (pv 4))) pa_nil)) pa_nil)))))), ?_⟩
    refine ⟨_, rfl, v, pl, ts, rfl, hd, fine, fun H1 D ws S1 nD hD hW => ?_⟩
    have wl := DtAll.len hW
    rw [List.length_map] at wl
    refine ⟨D, rfl, ⟨_, SqL.of hD⟩, fun C nC => ?_⟩
    refine lc_list (K := K) (a := D) (xs := ws) (fun i H' => Same H1 H' ∧ H' C = some (.lst (((lensOf pl ts).take i).map V.int))) ⟨same_new (Same.refl H1) nC, upd_same⟩ (fun i H' _ hP => SqL.of (hP.1 _ _ hD)) (fun i v H' hi hP => ?_) (fun H' hP => ?_)
    · obtain ⟨sm, hC⟩ := hP
      obtain ⟨d, hd, hx⟩ := DtAll.get hW hi
      rw [List.getElem?_map] at hd
      cases ee : (pairsOf pl ts)[i]? with
      | none => rw [ee] at hd; cases hd
      | some x =>
        rw [ee] at hd
        have ed : d = triD x := (Option.some.inj hd).symm
        subst ed
        obtain ⟨u2, rfl, hu2⟩ := dt_tri hx
        have el : (lensOf pl ts)[i]? = some x.1 := by
          unfold lensOf
          rw [List.getElem?_map, ee]
          rfl
        refine ⟨rfl, _, rfl, u2, _, 0, .int x.1, rfl, rfl, SqT.of (sm _ _ hu2), rfl, _, hC, ?_, same_put sm nC, ?_⟩
        · rw [List.length_map, List.length_take]
          exact szM (by omega)
        · rw [upd_same, List.take_add_one, el, List.map_append]
          rfl
    · obtain ⟨sm, hC⟩ := hP
      have e1 : ws.length = (lensOf pl ts).length := by
        unfold lensOf
        rw [List.length_map, wl]
      rw [e1, List.take_length] at hC
      have S2 := S1.trans sm
      refine ⟨_, rfl, .inl ⟨rfl, _, SqL.of hC⟩, _, rfl, C, _, .int n, rfl, rfl, SqL.of hC, rfl, flat_ints _, ?_⟩
      refine ⟨_, rfl, C, rfl, ⟨_, SqL.of hC⟩, fun B nB => ?_⟩
      refine lc_list (K := K) (a := C) (xs := (lensOf pl ts).map V.int) (fun i H'' => Same H' H'' ∧ H'' B = some (.lst ((((lensOf pl ts).take i).filter fun z => decide (z > n)).map V.int))) ⟨same_new (Same.refl H') nB, upd_same⟩ (fun i H'' _ hP => SqL.of (hP.1 _ _ hC)) (fun i v H'' hi hP => ?_) (fun H'' hP => ?_)
      · obtain ⟨sm2, hB⟩ := hP
        obtain ⟨m, em, rfl, et⟩ := at_int hi
        have et := filt_snoc (p := fun z => decide (z > n)) et
        refine ⟨rfl, _, rfl, _, rfl, _, _, rfl, rfl, _, rfl, ?_⟩
        refine ite2 (fun z => ?_) (fun z => ?_)
        · rw [if_pos z] at et
          refine ⟨_, rfl, _, hB, ?_, same_put sm2 nB, ?_⟩
          · rw [List.length_map]
            have := List.length_filter_le (fun z => decide (z > n)) ((lensOf pl ts).take i)
            rw [List.length_take] at this
            exact szM (by omega)
          · rw [upd_same, et, List.map_append]
            rfl
        · rw [if_neg z, List.append_nil] at et
          exact ⟨sm2, by rw [et]; exact hB⟩
      · obtain ⟨sm2, hB⟩ := hP
        rw [List.length_map, List.take_length] at hB
        refine ⟨B, _, rfl, .inl (SqL.of hB), ?_⟩
        refine ⟨(by show 2 ≤ sizeLine; decide), fun r nr => ?_⟩
        refine q _ _ (same_new (S2.trans sm2) nr) ?_
        rw [List.length_map, countV_int]
        exact .tup upd_same (.cons (.int _) (.cons (.int _) .nil))
end
end Far

namespace Far
open PySem PySem.Spec PyProof.Rows L2
section
variable {X : Cx} {o e : Expr} {es : List Expr} {to te : TE} {ta : TA} {f : Str} {p p' p1 p2 pos : Pos}
/-- C0.__init__(self, ..), C0 an own class over ValueError without an __init__ of its own -/
theorem pe_owninit {x : Str} {C0 : Addr} {pl : Sem Bool} (hg : Gl X x) (hm : X.mg x = some (.ref C0)) (rd : PySem.W.readsIn X.K C0 (.type "type") = true) (ga : PySem.W.specialIn X.K (.ref C0) "__getattribute__" = some (some (.builtin "type.__getattribute__")))
    (vV : PySem.W.findCls X.K (.ref C0) (.type "type") "__init__" = some (.val (.builtin "ValueError.__init__"))) (ha : PA X (e :: es) ta)
    (hdb : (x == ("__debug__" : Str)) = false := by decide)
    (hc : eval (.Call (.Attribute (.Name x p1) "__init__" p2) (e :: es) [] pos) X.env = (do
      let ov ← eval (.Name x p1) X.env
      standAt p2.atName
      let (f, first) ← holding [ov] (getMethod ov "__init__" pl)
      callWith pos f first (backTo pos (starEach (e :: es) X.env)) (backToKw pos (keywordEach [] X.env))) := by rfl)
    (he : starEach (e :: es) X.env = (false, eval e X.env) :: starEach es X.env := by rfl) (hpl : (backTo pos (starEach es X.env)).any (·.1) = false := by rfl) :
    PE X (.Call (.Attribute (.Name x p1) "__init__" p2) (e :: es) [] pos) (tVeI X.K ta) := by
  refine ⟨fun pins s σ H Q I h => ?_⟩
  refine PySem.W.methodCall_KW (ld_glob I hg hm ?_ hdb) hc
  refine PySem.W.method_cls I.kIn ga ?_
  refine PySem.W.cls_value I.kIn rd vV (by decide +kernel) ?_
  show wpAny _ _ (callWith pos (Value.builtin "ValueError.__init__") [] (backTo pos (starEach (e :: es) X.env)) []) _ _ _
  refine PyProof.Rows.callWith_method1 (thn (ha.run pos pins _ σ H _ (I.tok _) h) fun us s1 ⟨vs, H1, I1, r1, a, C, ws, ev, hl, T, ea, q⟩ => ?_) he hpl
  subst ev
  cases r1 with
  | @cons _ u0 _ ur ra rw' =>
    obtain rfl : u0 = Value.ref a := ra
    have hlen : ur.length ≤ sizeLine := by
      rw [← Paired.length rw', sizeLine_eq]
      omega
    exact oinit_ok T I1 ea hlen fun s' J => ⟨.non, H1, J, rfl, q⟩
end
end Far

namespace Far
open PySem PySem.Spec PyProof.Rows L2
/-! ### except x as e: name = e, the error kept behind the suite -/
/-- an error that was caught: of the class cls, its own dict at d -/
def caughtO (a : Addr) (cls : Value) (d : Option Addr) : HO := .ext fun h => ∃ (oe : Obj) (vs : Array Value), h.get? a = some oe ∧ Zc cls d oe ∧ oe.data = .fields vs
theorem caughtO_ok {P : Program} {w : World} {H : Hp} {h : Heap} {a : Addr} {cls : Value} {d : Option Addr} {oe : Obj} {vs : Array Value} (e : h.get? a = some oe) (z : Zc cls d oe) (hd : oe.data = .fields vs) : ObjOk P w H h a (caughtO a cls d) :=
  ⟨⟨oe, vs, e, z, hd⟩, ⟨oe, e⟩, fun _ _ ⟨o, v, q, r⟩ k => ⟨o, v, k o q, r⟩⟩
theorem caughtO_at {P : Program} {w : World} {H : Hp} {h : Heap} {a : Addr} {cls : Value} {d : Option Addr} (hok : HOk P w H h) (he : H a = some (caughtO a cls d)) : ∃ (oe : Obj) (vs : Array Value), h.get? a = some oe ∧ Zc cls d oe ∧ oe.data = .fields vs := by
  have x : ObjOk P w H h a (.ext fun h => ∃ (oe : Obj) (vs : Array Value), h.get? a = some oe ∧ Zc cls d oe ∧ oe.data = .fields vs) := hok a _ he
  exact x.1
section
variable {X : Cx} {pins : List (Addr × Obj)} {σ : L2.St} {H : Hp} {s : Shared}
/-- an object that was pinned, new in this call, is tracked from here on -/
theorem adopt {a : Addr} {oe : Obj} {vs : Array Value} {cls : Value} {d : Option Addr} (I : Inv X ((a, oe) :: pins) σ H s) (z : Zc cls d oe) (hd : oe.data = .fields vs) (h0 : X.s_0.heap.get? a = none) (hp : ∀ p ∈ X.pn ++ pins, p.1 ≠ a) :
    Inv X pins σ (upd H a (caughtO a cls d)) s := by
  obtain ⟨pa, na, nL, nF, nc⟩ := I.pin (a, oe) (List.mem_append_right _ List.mem_cons_self)
  have pa : s.heap.get? a = some oe := pa
  have na : H a = none := na
  have nL : a ≠ X.env.locals := nL
  refine ⟨I.ok, I.os, I.bare, ⟨I.base.keep, I.base.slot, fun b o e n hx => ?_, I.base.there, fun b xs e => ?_, fun b o u e => ?_, fun b ps e => ?_⟩, I.loc, I.cell, ?_, fun x c e => ?_, fun p hq => ?_, ?_, I.len⟩
  · have hb : b ≠ a := fun q => by rw [q, h0] at e; cases e
    rw [upd_ne hb]
    exact I.base.free b o e n hx
  · have q := I.base.tups b xs e
    rw [upd_ne (ne_of_none q na)]
    exact q
  · have q := I.base.frzs b o u e
    rw [upd_ne (ne_of_none q na)]
    exact q
  · obtain ⟨more, q⟩ := I.base.tbls b ps e
    refine ⟨more, ?_⟩
    rw [upd_ne (ne_of_none q na)]
    exact q
  · rw [upd_ne (Ne.symm nL)]
    exact I.free
  · obtain ⟨v, hc⟩ := I.cell x c e
    have hb : c ≠ a := fun q => by
      obtain ⟨o, ho, hcl⟩ := hc
      rw [q, pa] at ho
      cases ho
      exact nc v (by first | exact hcl | exact hcl.1 | exact hcl.2)
    rw [upd_ne hb]
    exact I.freeC x c e
  · have m : p ∈ X.pn ++ ((a, oe) :: pins) := by
      rcases List.mem_append.mp hq with h | h
      · exact List.mem_append_left _ h
      · exact List.mem_append_right _ (List.mem_cons_of_mem _ h)
    obtain ⟨q1, q2, q3⟩ := I.pin p m
    exact ⟨q1, by rw [upd_ne (hp p hq)]; exact q2, q3⟩
  · exact I.hok.laidN (fun _ _ q => q) na (caughtO_ok pa z hd)
end
/-- what the clause 'except x as n: m = n' wishes of an exception of the body: slot i is n's, j is m's -/
def wKeep (K : PySem.W.Frag) (c : Value) (i j : Nat) (Wout : WX) (D : Ends) : WX := fun cls d σ H =>
  ∃ b, PySem.W.exmOne K cls c = some b ∧ (b = true → ∀ a, H a = none → D.nx (((σ.set i (some (.ref a))).set j (some (.ref a))).set i none) (upd H a (caughtO a cls d))) ∧
    (b = false → Wout cls d σ H)
section
variable {X : Cx} {x n : Str} {c : Value} {i j : Nat} {body : List Stmt} {b₀ : Stmt} {np pos pos' : Pos} {tb : WX → TS} {ts : TS} {Wout : WX}
theorem ps_try_keep (hs : X.stack = X.env :: X.outer) (hf : X.env.frame = some X.env.locals) (hex : X.ex = []) (hN : X.N.Nodup) (hi : X.N[i]? = some n) (hln : X.env.kindOf n = some .local) (hc : Names X x c) (tk : Takes X Wout)
    (hb : ∀ (W : WX) (pn : List (Addr × Obj)) (xe : Value → Shared → Prop), Takes (X.tr pn xe) W → PassesOwn (model X.prog X.w) X.A X.env xe → PSs (X.tr pn xe) body (tb W))
    (hsu : ∀ (a : Addr) (oe : Obj) (cls : Value) (d : Option Addr) (pn : List (Addr × Obj)), Zc cls d oe → (∃ vs, oe.data = .fields vs) → PSs (X.suite a ((a, oe) :: pn)) [b₀] ts)
    (hts : ∀ (D : Ends) (σ : L2.St) (H : Hp) (a : Addr), σ[i]? = some (some (.ref a)) → D.nx (σ.set j (some (.ref a))) H → ts D σ H) :
    PS X (.Try body [.ExceptHandler (some (.Name x np)) (some n) [b₀] pos'] [] [] pos) (fun D σ H => tb (wKeep X.K c i j Wout D) D σ H) := by
  refine ⟨fun pins s σ H D I h => ?_⟩
  have ok := I.ok
  have hfr : X.A.frames = some (X.env :: X.outer) := by rw [ok.frames, hs]
  have hloc : Loc X.env.scope n := .inl hln
  refine wpAny_Try_except ?_
  refine wpAny_mono ((hb (wKeep X.K c i j Wout D) (X.pn ++ pins) (fun e s₁ => wpAny (model X.prog X.w) X.A (noteFrame e X.env) (fun _ s₂ => wpAny (model X.prog X.w) X.A (setFlight e none) (fun _ s₃ =>
    wpAny (model X.prog X.w) X.A (handleBy e X.env [.ExceptHandler (some (.Name x np)) (some n) [b₀] pos']) (SP X pins D) X.xe s₃) X.xe s₂) X.xe s₁) (fun u s' xx => ?_) PassesOwn.looking).run [] s σ H D (I.toTry _) h) (fun f s1 hsp => ?_) (fun e s1 he => he)
  · obtain ⟨a, B, sI, pins', σ', H', cls, d, rfl, J', nb, up, sky, na, os, ag, b, hb1, hyes, hno⟩ := xx
    have J : Inv X pins σ' H' sI := J'.ofTry ok
    have sky' : Sky B (X.env :: X.outer) a (Zc cls d) X.env.locals s'.heap := by rw [← hs]; exact sky
    show wpAny _ X.A (noteFrame (.ref a) X.env) _ _ _
    refine Sky.land Zc.steady hfr hf sky' fun h3 fl3 up3 => ?_
    have J3 : Inv X pins σ' H' { s' with heap := h3 } := J.landed nb fl3.1 (up.trans up3) os ag
    obtain ⟨oe3, vs3, he3, hz3, hd3⟩ := fl3.there
    have notFr : ∀ {h : Heap} {o : Obj} {vs : Array Value}, h.FunFrames B (X.env :: X.outer) → h.get? a = some o → o.data = .fields vs → a ∉ frs (X.env :: X.outer) := fun {h o vs} ff e dd hm => by
      obtain ⟨_, o', e', hnf⟩ := ff.mem hm
      rw [e] at e'; cases e'
      exact hnf _ dd
    have nfr := notFr fl3.2.2.1 he3 hd3
    have nL : a ≠ X.env.locals := fun z => nfr (List.mem_filterMap.mpr ⟨X.env, List.mem_cons_self, by rw [hf, z]⟩)
    have nF : a ∉ X.fs := fun hm => by
      obtain ⟨e, he, q⟩ := List.mem_filterMap.mp hm
      exact nfr (List.mem_filterMap.mpr ⟨e, List.mem_cons_of_mem _ he, q⟩)
    have nB : B.get? a = none := fl3.2.1
    have nI : sI.heap.get? a = none := by
      cases q : sI.heap.get? a with
      | none => rfl
      | some o =>
        have := nb a o q (by rw [hs]; exact nfr)
        rw [nB] at this
        cases this
    have n0 : X.s_0.heap.get? a = none := by
      cases q : X.s_0.heap.get? a with
      | none => rfl
      | some o =>
        obtain ⟨o', q'⟩ := J.base.there a o q (by rw [hex]; intro z; cases z)
        rw [nI] at q'
        cases q'
    have nP : ∀ p ∈ X.pn ++ pins, p.1 ≠ a := fun p hp z => by
      have := (J.pin p hp).1
      rw [z, nI] at this
      cases this
    have S3 := J3.suite he3 hd3 na nL nF
    refine wpAny_handleBy_cons (codeAny_handlers_test ?_) (by intro q; cases q)
    have LT : PySem.W.Looks (model X.prog X.w) h3 (typeOf (.ref a)) cls := fun A Q E s k q => wpAny_typeOf_ref (k _ _ he3) (by rw [hz3.1]; exact q)
    have LM := PySem.W.exm_one (M := model X.prog X.w) (J3.kIn) LT hb1
    have test : ∀ {Q : Value → Shared → Prop} {E : Value → Shared → Prop}, Q c { s' with heap := h3 } → wpAny (model X.prog X.w) (X.A.mark (some (.ref a))) (eval (.Name x np) X.env) Q E { s' with heap := h3 } := fun {Q E} q => by
      obtain ⟨hg, hdbg, hm | ⟨hm, hv, hnn⟩⟩ := hc
      · exact ld_glob (X := X.suite a ((a, oe3) :: (X.pn ++ pins))) S3 hg hm q hdbg
      · exact ld_blt (X := X.suite a ((a, oe3) :: (X.pn ++ pins))) S3 hg hm hv q hnn hdbg
    refine test (LM.here ?_)
    cases b with
    | true =>
      refine codeAny_handlers_suite_as ?_
      refine HandSPX.lands_againZ fl3 fun h4 fl4 up4 => ?_
      have J4 : Inv X pins σ' H' { s' with heap := h4 } := J.landed nb fl4.1 ((up.trans up3).trans up4) os ag
      obtain ⟨oe4, vs4, he4, hz4, hd4⟩ := fl4.there
      have S4 := J4.suite he4 hd4 na nL nF
      refine store_ok (X := X.suite a ((a, oe4) :: (X.pn ++ pins))) (v := .ref a) S4 hN hi hloc rfl (fun s5 S5 => ?_) (.inr hln)
      have li : i < σ'.length := by
        rw [J4.len]
        exact (List.getElem?_eq_some_iff.mp hi).1
      have run := (hsu a oe4 cls d (X.pn ++ pins) hz4 ⟨_, hd4⟩).run [] s5 (σ'.set i (some (.ref a))) H' { nx := fun σ6 H6 => σ6 = (σ'.set i (some (.ref a))).set j (some (.ref a)) ∧ H6 = H', rt := fun _ _ => False, bk := fun _ _ => False, ct := fun _ _ => False } S5
        (hts _ _ _ a (by simp [li]) ⟨rfl, rfl⟩)
      refine wpAny_mono run (fun f s6 hsp => ?_) (fun _ _ z => False.elim z)
      have end_ : ∀ {σ6 : L2.St} {H6 : Hp} {Q : Shared → Prop}, Inv (X.suite a ((a, oe4) :: (X.pn ++ pins))) [] σ6 H6 s6 → (∀ s7, Inv X ((a, oe4) :: pins) (σ6.set i none) H6 s7 → Q s7) →
          wpAny (model X.prog X.w) X.A (do bindName X.env n .none; unbindBehindTheSuite X.env n pos') (fun _ s7 => Q s7) X.xe s6 := fun {σ6 H6 Q} S6 hq => by
        have S6' : Inv X ((a, oe4) :: pins) σ6 H6 s6 := ⟨ok, S6.os, S6.bare, S6.base, S6.loc, S6.cell, S6.free, S6.freeC, fun p hp => S6.pin p (by
          refine List.mem_append_left _ ?_
          show p ∈ (a, oe4) :: (X.pn ++ pins)
          rcases List.mem_append.mp hp with h | h
          · exact List.mem_cons_of_mem _ (List.mem_append_left _ h)
          · rcases List.mem_cons.mp h with h | h
            · rw [h]; exact List.mem_cons_self
            · exact List.mem_cons_of_mem _ (List.mem_append_right _ h)), S6.hok, S6.len⟩
        exact gone_ok S6' hN hi hln hq
      cases f with
      | next =>
        obtain ⟨σ6, H6, S6, e1, e2⟩ := hsp
        subst e1 e2
        exact end_ S6 fun s7 J7 => ⟨_, _, adopt J7 hz4 hd4 n0 nP, hyes rfl a na⟩
      | brk =>
        obtain ⟨σ6, H6, S6, q6⟩ := hsp
        exact q6.elim
      | cont =>
        obtain ⟨σ6, H6, S6, q6⟩ := hsp
        exact q6.elim
      | ret u =>
        obtain ⟨v6, σ6, H6, S6, r6, q6⟩ := hsp
        exact q6.elim
    | false =>
      show wpAny _ X.A (handleBy (.ref a) X.env []) _ _ _
      refine wpAny_handleBy_nil ?_
      obtain ⟨k1, k2, k3, oe, vs, T, oT, ts', he, hz, hd, h1, hr⟩ := id fl3
      unfold PySem.passOn
      refine wpAny_bind (wpAny_field he hd h1 ?_)
      rw [if_neg (show ¬ ((Value.ref T == Value.none) = true) from by simp)]
      have fin : wpAny (model X.prog X.w) X.A (setFlight (.ref a) X.env.frame) (fun _ s4 => wpAny (model X.prog X.w) X.A (throw (.ref a) : Sem Flow) (SP X pins D) X.xe s4) X.xe { s' with heap := h3 } := by
        rw [hf]
        refine HandSPX.setFlight_upZ fl3 fun h4 hh4 up4 => wpAny_throw (tk _ _ ?_)
        exact ⟨a, B, sI, pins, σ', H', cls, d, rfl, J, nb, (up.trans up3).trans up4, .inr (.inr (by rw [hs]; exact hh4)), na, os, ag, hno rfl⟩
      first
        | exact wpAny_bind (wpAny_pure (wpAny_bind fin))
        | exact wpAny_bind fin
  · cases f with
    | next =>
      obtain ⟨σ', H', J', q⟩ := hsp
      exact wpAny_execs_nil ⟨σ', H', J'.ofTry ok, q⟩
    | brk =>
      obtain ⟨σ', H', J', q⟩ := hsp
      exact ⟨σ', H', J'.ofTry ok, q⟩
    | cont =>
      obtain ⟨σ', H', J', q⟩ := hsp
      exact ⟨σ', H', J'.ofTry ok, q⟩
    | ret u =>
      obtain ⟨v, σ', H', J', r, q⟩ := hsp
      exact ⟨v, σ', H', J'.ofTry ok, r, q⟩
end
end Far

namespace Far
open PySem PySem.Spec PySem.Calls PyProof.Rows L2 PySem.W
section
variable {prog : Program} {w : World} {A : Around} {E : Value → Shared → Prop} {s : Shared} {K : Frag} {x D : Addr} {ox : Obj} {od : Option Obj}
theorem obj_data {C : Addr} {name : Str} {a g : Value} (hc : (clsIn K C).isSome = true) (ha : findIn K (.ref C) name = some (some a)) (hg : specialIn K a "__get__" = some (some g)) (ht : takesIn K a = some true) : findObj K C od name = some (.bind g a) := by
  obtain ⟨cd, hc⟩ := Option.isSome_iff_exists.mp hc
  unfold findObj
  rw [hc, Option.bind_some, ha, Option.bind_some]
  simp [hg, ht]
/-- the class of an own error that has a dict of its own -/
theorem cls_of_own {Q : Option Value → Shared → Prop} (T : ExcC K D) (X : K.In s.heap) (I : InstAt s.heap x ox D od) (h : Q (some (.ref D)) { s with toks := s.toks + 1 }) : wpAny (model prog w) A (getAttr? (.ref x) "__class__") Q E s := by
  have hf : findObj K D od "__class__" = some (.bind (.builtin "getset_descriptor.__get__") (.builtin "object.__class__")) := obj_data (by obtain ⟨cd, hc, _⟩ := any_some T.hd; rw [hc]; rfl) T.ha T.hn T.ht
  obtain ⟨hp, g, d, t, os⟩ := s
  have L0 := I.type (M := model prog w)
  have L1 := looks_findIn (M := model prog w) X T.hg
  have L2 := looks_findIn (M := model prog w) X T.hk
  have L3 := looks_find (M := model prog w) X I hf
  have sub : Looks (model prog w) hp (isInstance (.ref x) (.type "BaseException")) true := L0.andThen (looks_subIn X T.hs)
  have n0 : (false && onTheHeap (Value.builtin "BaseException.__getattribute__")) = false := rfl
  have n2 : (Value.builtin "BaseException.__getattribute__" == Value.builtin "object.__getattribute__") = false := by decide +kernel
  have n1 : (onTheHeap (Value.ref D) && Value.builtin "BaseException.__getattribute__" == Value.builtin "object.__getattribute__") = false := by rw [n2]; rfl
  unfold getAttr? getAttrBy? getAttrBy
  refine wpAny_bind (wpAny_mkText (wpAny_bind (wpAny_attempt (wpAny_holding (wpAny_bind (L0.at (wpAny_bind (L1.at ?_))))))))
  show wpAny _ _ (if (onTheHeap (Value.ref D) && Value.builtin "BaseException.__getattribute__" == Value.builtin "object.__getattribute__") = true then _ else _) _ _ _
  rw [n1, if_neg Bool.false_ne_true]
  unfold getAttrByItsOwn hookBefore
  refine wpAny_bind ?_
  rw [if_pos (show onTheHeap (Value.ref D) = true from rfl)]
  refine L2.at ?_
  refine wpAny_bind (wpAny_attempt (wpAny_holding ?_))
  unfold callGetattribute
  rw [n0, if_neg Bool.false_ne_true]
  unfold boundAndCalled
  rw [PySem.F.excAttr_ValueError.ga.bind (.ref x)]
  refine wpAny_bind (wpAny_pure ?_)
  show wpAny _ _ (call (.builtin "BaseException.__getattribute__") [.ref x, .str "__class__" t]) _ _ _
  refine wpAny_call (codeAny_call_builtin PySem.F.excAttr_ValueError.ga.plain PySem.F.entry_bexc_ga ?_)
  refine @check_slot (model prog w) _ _ ⟨hp, g, d, t + 1, os⟩ "BaseException.__getattribute__" "BaseException" "__getattribute__" (.ref x) [.str "__class__" t] [] _ (by decide +kernel) (by decide +kernel) sub (PySem.F.args_bexc_ga (.ref x) (.str "__class__" t)) ?_
  unfold Builtin.«object.__getattribute__»
  refine wpAny_bind (wpAny_of_eq (a := ((Value.ref x : Value), [Value.str "__class__" t])) (by first | rfl | (simp only [slotArgs]; rfl)) ?_)
  refine wpAny_bind (wpAny_pure (wpAny_bind (L0.at (wpAny_bind (L3.at ?_)))))
  show wpAny _ _ (holding [Value.builtin "object.__class__"] (call (.builtin "getset_descriptor.__get__") [.builtin "object.__class__", .ref x, .ref D]) >>= ret) _ _ _
  refine wpAny_bind (wpAny_holding (wpAny_call (class_get (s := ⟨hp, g, d, t + 1, os⟩) (ox := ox) (od := od) X I T.hm ?_)))
  refine wpAny_pure ?_
  show wpAny _ _ (handedOut (.ref D)) _ _ _
  rw [handedOut_of (v := .ref D) rfl]
  first
    | exact wpAny_pure (wpAny_pure h)
    | exact wpAny_pure h
    | exact wpAny_pure (wpAny_bind (wpAny_pure (wpAny_pure h)))
theorem kitx_own (T : ExcC K D) : KitX K (.ref x) (.ref D) (fun h => InstAt h x ox D od) where
  ty := fun _ _ _ I => I.type
  it := fun _ _ X _ => by
    obtain ⟨cdD, hcD, _⟩ := any_some T.hd
    unfold clsIn at hcD
    split at hcD
    · rename_i c' d' cd' sl' ho
      intro A' Q' E' s' k q
      unfold isType loadHead
      exact wpAny_bind (wpAny_loadPart (k _ _ (X _ _ ho)) (wpAny_pure q))
    · cases hcD
  ne := fun h tp dd its n sl X htp => by
    obtain ⟨cdD, hcD, _⟩ := any_some T.hd
    refine Bool.eq_false_iff.mpr fun q => ?_
    have e : D = tp := Value.ref.inj (beq_iff_eq.mp q)
    subst e
    unfold clsIn at hcD
    split at hcD
    · rename_i c' d' cd' sl' ho
      have z := (X _ _ ho).symm.trans htp
      cases z
    · cases hcD
  ca := fun X I k => cls_of_own T X I k
end
/-- an error that was caught, of the class at D, with its own dict at dd -/
def Caught (H : Hp) (a D dd : Addr) (fs : List (Str × V)) : Prop := H a = some (caughtO a (.ref D) (some dd)) ∧ H dd = some (.xd fs)
theorem Caught.same {H H' : Hp} {a D dd : Addr} {fs : List (Str × V)} (c : Caught H a D dd fs) (s : Same H H') : Caught H' a D dd fs := ⟨s _ _ c.1, s _ _ c.2⟩
section
variable {X : Cx} {pins : List (Addr × Obj)} {σ : L2.St} {H : Hp} {s : Shared}
theorem Caught.inst {a D dd : Addr} {fs : List (Str × V)} (c : Caught H a D dd fs) (I : Inv X pins σ H s) : ∃ (oe od : Obj) (mA : Str → Option Value), InstAt s.heap a oe D (some od) ∧ s.heap.get? dd = some od ∧ (∀ f, RelO (fs.lookup f) (mA f)) ∧ (∀ f, lookIn f od = some (mA f)) := by
  obtain ⟨oe, vs, ha, hz, hd⟩ := caughtO_at I.hok c.1
  have hx : ObjOk X.prog X.w H s.heap dd (.xd fs) := I.hok dd _ c.2
  obtain ⟨mA, hns, hr⟩ := hx
  obtain ⟨od, ho, hl⟩ := lookIn_ns hns
  exact ⟨oe, od, mA, ⟨ha, hz.1, by unfold PySem.W.notCls; rw [hd] <;> rfl, by rw [hz.2]; exact ho⟩, ho, hr, hl⟩
/-- isinstance(e, c), e a caught error that a name holds -/
def rIsC (K : PySem.W.Frag) : List V → Hp → VK → Prop := fun xs H Q => ∃ (a D dd : Addr) (fs : List (Str × V)) (c : V) (cv : Value) (b : Bool), xs = [.ref a, c] ∧ Caught H a D dd fs ∧ ExcC K D ∧ ClsV c cv ∧ PySem.W.kitOne K (.ref D) cv = some b ∧ Q (.bl b) H
theorem call_isC {X : Cx} {K : PySem.W.Frag} (eK : X.K = K := by rfl) : CallR X (.builtin "isinstance") (rIsC K) := by
  subst eK
  intro pins s σ H xs us Q I r h
  obtain ⟨a, D, dd, fs, c, cv, b, rfl, hC, T, k, e, q⟩ := h
  obtain ⟨u1, u2, rfl, r1, r2⟩ := vals2 r
  have e2 := k.eq r2
  subst e2
  cases (show u1 = Value.ref a from r1)
  obtain ⟨oe, od, mA, J, _⟩ := hC.inst I
  exact PySem.W.kia_one (kitx_own T) I.kIn J e (fun z => nomatch z) fun tk => ⟨.bl b, H, I.kept (t' := tk) fun _ _ z => z, rfl, q⟩
/-- e.f, e a caught error that a name holds -/
def tCf (K : PySem.W.Frag) (f : Str) (te : TE) : TE := fun σ H Q => te σ H fun x H1 => ∃ (a D dd : Addr) (fs : List (Str × V)) (v : V), x = .ref a ∧ Caught H1 a D dd fs ∧ XfC K D ∧ PySem.W.findIn K (.ref D) f = some none ∧ fs.lookup f = some v ∧ Q v H1
theorem pe_cf {X : Cx} {e : Expr} {te : TE} {pos : Pos} {n : Str} (he : PE X e te) (hb : attributeBase e n X.env (eval e X.env) = eval e X.env := by rfl) : PE X (.Attribute e n pos) (tCf X.K n te) := by
  refine ⟨fun pins s σ H Q I h => ?_⟩
  refine attr_of hb (thn (he.run pins s σ H _ I h) fun u s1 hh => ?_)
  obtain ⟨x, H1, I1, rx, a, D, dd, fs, v, ex, hC, T, hno, l, q⟩ := hh
  subst ex
  obtain rfl : u = Value.ref a := rx
  obtain ⟨oe, od, mA, J, ho, hr, hl⟩ := hC.inst I1
  obtain ⟨u, hu, ru⟩ := RelO.some_of (v := v) (o := mA n) (by rw [← l]; exact hr n)
  exact HandSPX.exc_get I1.kIn J T.ga T.gg T.exC (PySem.W.findObj_own T.hdC hno rfl (by rw [hl, hu])) (handed_of ru) ⟨v, H1, I1.tok _, ru, q⟩
end
end Far

namespace Far
open PySem PySem.Spec PyProof.Rows L2
open C8 (pss_cut tCut)
open SX (S)
/-! ### a class of one's own: its methods, which may raise, its making -/
/-- a method of the class at C that may be called -/
structure CalM (P : Program) (w : World) (K : PySem.W.Frag) (mg : Str → Option Value) (base : Heap) (k : Nat) (C : Addr) (m : Str) (sp : Sp) : Prop where
  ex : ∃ (f : Addr) (fd : FuncData) (ps : List Str), FnOk P w K mg base (L2.CX P w) k f fd ps sp ∧ Cls K C ∧ Meth K C m f ∧ Binds K fd ps []
def tMethX (C : Addr) (m : Str) (sp : Sp) (W : WX) (ta : TE) (t : TA) : TE := fun σ H Q => ta σ H fun x H1 => ∃ a dx fs, x = .ref a ∧ H1 a = some (.ins C dx fs) ∧ fs.lookup m = none ∧ t σ H1 fun vs H2 => sp (x :: vs) H2 Q (WE W σ)
theorem pe_mX {X : Cx} {W : WX} {k j : Nat} {C : Addr} {m : Str} {sp : Sp} {apos pos : Pos} {o e : Expr} {es : List Expr} {ta : TE} {t : TA} {pl : Sem Bool} (tk : Takes X W) (c : CalM X.prog X.w X.K X.mg X.base k C m sp) (hr : Room j X.A) (hk : k ≤ j) (he : PE X o ta) (ha : PA X (e :: es) t)
    (hst : starEach (e :: es) X.env = (false, eval e X.env) :: starEach es X.env := by rfl) (hpl : (backTo pos (starEach es X.env)).any (·.1) = false := by rfl)
    (ht : eval (.Call (.Attribute o m apos) (e :: es) [] pos) X.env = (do
      let ov ← eval o X.env
      standAt apos.atName
      let (f, first) ← holding [ov] (getMethod ov m pl)
      callWith pos f first (backTo pos (starEach (e :: es) X.env)) (backToKw pos (keywordEach [] X.env))) := by rfl) :
    PE X (.Call (.Attribute o m apos) (e :: es) [] pos) (tMethX C m sp W ta t) := by
  obtain ⟨f, fd, ps, F, cl, hm, hb⟩ := c.ex
  refine ⟨fun pins s σ H Q I h => ?_⟩
  refine PySem.W.methodCall_KW (pl := pl) (thn (he.run pins s σ H _ I h) fun u s1 ⟨x, H1, I1, rx, a, dx, fs, ex, ea, l, q⟩ => ?_) ht
  subst ex
  obtain rfl : u = Value.ref a := rx
  refine getmeth_ok I1 ea cl hm l ?_
  refine PySem.W.callWith_K (first := [.ref a]) (h₀ := X.base) I.ok.mod.kin hm.kp (thn (ha.run pos pins s1 σ H1 _ I1 q) fun us s2 ⟨vs, H2, I2, r, q2⟩ => ⟨I2.kIn, ?_⟩) hst hpl
  exact run_fnS (us := .ref a :: us) (vs := .ref a :: vs) F (hr.mono hk) hb (passAt tk σ) I2 (.cons rfl r) q2
theorem pe_mX0 {X : Cx} {W : WX} {k j : Nat} {C : Addr} {m : Str} {sp : Sp} {apos pos : Pos} {o : Expr} {ta : TE} {pl : Sem Bool} (tk : Takes X W) (c : CalM X.prog X.w X.K X.mg X.base k C m sp) (hr : Room j X.A) (hk : k ≤ j) (he : PE X o ta)
    (ht : eval (.Call (.Attribute o m apos) [] [] pos) X.env = (do
      let ov ← eval o X.env
      standAt apos.atName
      let (f, first) ← holding [ov] (getMethod ov m pl)
      callWith pos f first (backTo pos (starEach [] X.env)) (backToKw pos (keywordEach [] X.env))) := by rfl) :
    PE X (.Call (.Attribute o m apos) [] [] pos) (tMethX C m sp W ta tNil) := by
  obtain ⟨f, fd, ps, F, cl, hm, hb⟩ := c.ex
  refine ⟨fun pins s σ H Q I h => ?_⟩
  refine PySem.W.methodCall_KW (pl := pl) (thn (he.run pins s σ H _ I h) fun u s1 ⟨x, H1, I1, rx, a, dx, fs, ex, ea, l, q⟩ => ?_) ht
  subst ex
  obtain rfl : u = Value.ref a := rx
  refine getmeth_ok I1 ea cl hm l ?_
  refine PySem.W.callWith_K0 (first := [.ref a]) I1.kIn hm.kp ?_
  exact run_fnS (us := [.ref a]) (vs := [.ref a]) F (hr.mono hk) hb (passAt tk σ) I1 (.cons rfl .nil) q
/-- the class at C, whose __init__ keeps the promise -/
structure CalK (P : Program) (w : World) (K : PySem.W.Frag) (mg : Str → Option Value) (base : Heap) (k : Nat) (C : Addr) (x : Str) (sp : Sp) : Prop where
  ex : ∃ (f : Addr) (fd : FuncData) (ps : List Str), FnOk P w K mg base CX0 k f fd ps sp ∧ Mk K C f ∧ mg x = some (.ref C) ∧ Binds K fd ps []
theorem pe_mk {X : Cx} {k j : Nat} {C : Addr} {x : Str} {sp : Sp} {p pos : Pos} {e : Expr} {es : List Expr} {t : TA} (c : CalK X.prog X.w X.K X.mg X.base k C x sp) (hr : Room j X.A) (hk : k + 1 ≤ j) (hg : Gl X x) (ha : PA X (e :: es) t)
    (hdb : (x == ("__debug__" : Str)) = false := by decide) (he : starEach (e :: es) X.env = (false, eval e X.env) :: starEach es X.env := by rfl) (hpl : (backTo pos (starEach es X.env)).any (·.1) = false := by rfl) :
    PE X (.Call (.Name x p) (e :: es) [] pos) (tMake C sp [] E0 t) := by
  obtain ⟨f, fd, ps, F, M, hm, b⟩ := c.ex
  exact pe_make M F (hr.mono hk) hg hm b .nil pass0 ha hdb he hpl
/-- what the written part says of the class KeptTree, at C -/
structure KtC (K : PySem.W.Frag) (C : Addr) : Prop where
  cl : Cls K C
  nT : NoAttr K C "_tree"
def KeptAt (C : Addr) (H : Hp) (p : Addr) (pl : List Nm) (ts : List Tie) : Prop := ∃ (dx : Addr) (v : V), H p = some (.ins C dx [("_tree", v)]) ∧ Dt H v (treeD pl ts)
theorem KeptAt.mv {C : Addr} {H H' : Hp} {p : Addr} {pl : List Nm} {ts : List Tie} (h : KeptAt C H p pl ts) (s : ∀ dx v, H p = some (.ins C dx [("_tree", v)]) → H' p = some (.ins C dx [("_tree", v)])) (t : TK H H') : KeptAt C H' p pl ts := by
  obtain ⟨dx, v, h1, h2⟩ := h
  exact ⟨dx, v, s _ _ h1, Dt.keep t h2⟩
theorem KeptAt.same {C : Addr} {H H' : Hp} {p : Addr} {pl : List Nm} {ts : List Tie} (h : KeptAt C H p pl ts) (s : Same H H') : KeptAt C H' p pl ts := h.mv (fun _ _ z => s _ _ z) (TK.of s)
def KeptZ (C : Addr) (H : Hp) (p : Addr) (pl : List Nm) (ts : List Tie) : Prop := ∃ (dx : Addr) (v : V), H p = some (.ins C dx [("_tree", v)]) ∧ Dt H v (treeD pl ts) ∧ PlZ H v pl
theorem KeptZ.at {C : Addr} {H : Hp} {p : Addr} {pl : List Nm} {ts : List Tie} (h : KeptZ C H p pl ts) : KeptAt C H p pl ts := by
  obtain ⟨dx, v, h1, h2, _⟩ := h
  exact ⟨dx, v, h1, h2⟩
theorem KeptZ.mv {C : Addr} {H H' : Hp} {p : Addr} {pl : List Nm} {ts : List Tie} (h : KeptZ C H p pl ts) (s : ∀ dx v, H p = some (.ins C dx [("_tree", v)]) → H' p = some (.ins C dx [("_tree", v)])) (t : TK H H') : KeptZ C H' p pl ts := by
  obtain ⟨dx, v, h1, h2, h3⟩ := h
  exact ⟨dx, v, s _ _ h1, Dt.keep t h2, h3.keep t⟩
theorem KeptZ.same {C : Addr} {H H' : Hp} {p : Addr} {pl : List Nm} {ts : List Tie} (h : KeptZ C H p pl ts) (s : Same H H') : KeptZ C H' p pl ts := h.mv (fun _ _ z => s _ _ z) (TK.of s)
abbrev s_KeptTree_init : Stmt := inClass (topS 53) 0
abbrev N_KeptTree_init : List Str := ["self", "tree"]
theorem sc_KeptTree_init : FnScope N_KeptTree_init ["self", "tree"] (defScope s_KeptTree_init) := ⟨rfl, rfl, rfl, by decide +kernel, rfl, by decide +kernel, by decide +kernel⟩
abbrev s_KeptTree_tree_now : Stmt := inClass (topS 53) 4
abbrev N_KeptTree_tree_now : List Str := ["self"]
theorem sc_KeptTree_tree_now : FnScope N_KeptTree_tree_now ["self"] (defScope s_KeptTree_tree_now) := ⟨rfl, rfl, rfl, by decide +kernel, rfl, by decide +kernel, by decide +kernel⟩
abbrev s_KeptTree_farthest_now : Stmt := inClass (topS 53) 5
abbrev N_KeptTree_farthest_now : List Str := ["self"]
theorem sc_KeptTree_farthest_now : FnScope N_KeptTree_farthest_now ["self"] (defScope s_KeptTree_farthest_now) := ⟨rfl, rfl, rfl, by decide +kernel, rfl, by decide +kernel, by decide +kernel⟩
abbrev s_KeptTree_middle_now : Stmt := inClass (topS 53) 6
abbrev N_KeptTree_middle_now : List Str := ["self"]
theorem sc_KeptTree_middle_now : FnScope N_KeptTree_middle_now ["self"] (defScope s_KeptTree_middle_now) := ⟨rfl, rfl, rfl, by decide +kernel, rfl, by decide +kernel, by decide +kernel⟩
section
variable {P : Program} {w : World} {K : PySem.W.Frag} {mg : Str → Option Value} {base : Heap} {C J aN : Addr}
def spKInit (C : Addr) : Sp := fun vs H Q _ => ∃ (p dx : Addr) (v : V), vs = [.ref p, v] ∧ H p = some (.ins C dx []) ∧ Q .non (upd H p (.ins C dx [("_tree", v)]))
theorem ok_kinit {f : Addr} {fd : FuncData} (T : KtC K C) (F : Fun K "__init__" "KeptTree.__init__" s_KeptTree_init f fd) : FnOk P w K mg base CX0 1 f fd ["self", "tree"] (spKInit C) := by
  refine F.ok sc_KeptTree_init (fun vs H Q E h => ?_) (fun cdv A outer s H vs Q E hr h => ?_)
  · obtain ⟨p, dx, v, rfl, _⟩ := h
    rfl
  · obtain ⟨p, dx, v, rfl, hp, q⟩ := h
    refine ⟨_, (pss_one (ps_fld (pv 0) (pv 1) rfl)), ?_⟩
    exact ⟨_, rfl, _, rfl, p, C, dx, [], rfl, hp, T.cl, T.nT, by decide, q⟩
def spNow (C : Addr) : Sp := fun vs H Q _ => ∃ (p : Addr) (pl : List Nm) (ts : List Tie), vs = [.ref p] ∧ KeptZ C H p pl ts ∧ ∀ v : V, Dt H v (treeD pl ts) → PlZ H v pl → Q v H
theorem ok_now {f : Addr} {fd : FuncData} (T : KtC K C) (F : Fun K "tree_now" "KeptTree.tree_now" s_KeptTree_tree_now f fd) : FnOk P w K mg base (L2.CX P w) 1 f fd ["self"] (spNow C) := by
  refine F.okX sc_KeptTree_tree_now (fun vs H Q E h => ?_) (fun cdv A outer s H vs Q E hr h => ?_)
  · obtain ⟨p, pl, ts, rfl, _⟩ := h
    rfl
  · obtain ⟨p, pl, ts, rfl, ⟨dx, v, hp, hv, hz⟩, q⟩ := h
    refine ⟨_, (pss_one (ps_ret (pe_fld (pv 0) rfl))), ?_⟩
    exact ⟨_, rfl, p, C, dx, _, v, rfl, hp, T.cl, T.nT, rfl, q v hv hz⟩
def spFarNow (C : Addr) : Sp := fun vs H Q _ => ∃ (p : Addr) (pl : List Nm) (ts : List Tie), vs = [.ref p] ∧ KeptAt C H p pl ts ∧ Fine pl ts ∧ ∀ (H' : Hp) (r : V), Same H H' → Dt H' r (farD pl ts) → Q r H'
theorem ok_far_now {f : Addr} {fd : FuncData} (T : KtC K C) (F : Fun K "farthest_now" "KeptTree.farthest_now" s_KeptTree_farthest_now f fd) (Cfarthest : Cal P w K mg base 5 "farthest" spFarthest) : FnOk P w K mg base (L2.CX P w) 6 f fd ["self"] (spFarNow C) := by
  refine F.okX sc_KeptTree_farthest_now (fun vs H Q E h => ?_) (fun cdv A outer s H vs Q E hr h => ?_)
  · obtain ⟨p, pl, ts, rfl, _⟩ := h
    rfl
  · obtain ⟨p, pl, ts, rfl, ⟨dx, v, hp, hv⟩, fine, q⟩ := h
    refine ⟨_, (pss_one (ps_ret (pe_c Cfarthest hr (by decide) rfl (pa_cons (pe_fld (pv 0) rfl) pa_nil)))), ?_⟩
    exact ⟨_, rfl, p, C, dx, _, v, rfl, hp, T.cl, T.nT, rfl, v, pl, ts, rfl, hv, fine, q⟩
def spMidNow (C : Addr) : Sp := fun vs H Q _ => ∃ (p : Addr) (pl : List Nm) (ts : List Tie), vs = [.ref p] ∧ KeptZ C H p pl ts ∧ Fine pl ts ∧ ∀ (H' : Hp) (r : V), Same H H' → Dt H' r (middleD pl ts) → Q r H'
theorem ok_mid_now {f : Addr} {fd : FuncData} (T : KtC K C) (F : Fun K "middle_now" "KeptTree.middle_now" s_KeptTree_middle_now f fd) (Cmiddle_point : Cal P w K mg base 6 "middle_point" spMp) : FnOk P w K mg base (L2.CX P w) 7 f fd ["self"] (spMidNow C) := by
  refine F.okX sc_KeptTree_middle_now (fun vs H Q E h => ?_) (fun cdv A outer s H vs Q E hr h => ?_)
  · obtain ⟨p, pl, ts, rfl, _⟩ := h
    rfl
  · obtain ⟨p, pl, ts, rfl, ⟨dx, v, hp, hv, hz⟩, fine, q⟩ := h
    refine ⟨_, (pss_one (ps_ret (pe_c Cmiddle_point hr (by decide) rfl (pa_cons (pe_fld (pv 0) rfl) pa_nil)))), ?_⟩
    exact ⟨_, rfl, p, C, dx, _, v, rfl, hp, T.cl, T.nT, rfl, v, pl, ts, rfl, hv, hz, fine, q⟩
end
end Far

namespace Far
open PySem PySem.Spec PyProof.Rows L2
open SX (S)
/-! ### all ties so many times as long -/
def scl (m : Int) (e : Tie) : Tie := (e.1, e.2.1, e.2.2 * m)
theorem Adj.scl {m : Int} {ts : List Tie} {u v : Nm} {k : Int} (h : Adj ts u v k) : Adj (ts.map (scl m)) u v (k * m) := h.elim (fun z => .inl (List.mem_map.mpr ⟨_, z, rfl⟩)) fun z => .inr (List.mem_map.mpr ⟨_, z, rfl⟩)
theorem Way.scl {m : Int} {ts : List Tie} {u v : Nm} {p : List Nm} {L : Int} (h : Way ts u v p L) : Way (ts.map (scl m)) u v p (L * m) := by
  induction h with
  | nil =>
    rw [Int.zero_mul]
    exact .nil
  | @snoc v w p L k _ ha hn ih =>
    rw [Int.add_mul]
    exact .snoc ih ha.scl hn
theorem Grown.scl {m : Int} (m1 : 1 ≤ m) {os : List Nm} {es : List Tie} (g : Grown os es) : (∀ e ∈ es, e.2.2 * m ≤ 1000000) → Grown os (es.map (scl m)) := by
  induction g with
  | one a => exact fun _ => .one a
  | @leaf os es a b k e g ha hb he k1 k2 ih =>
    intro h
    rw [List.map_append]
    have hk : k * m ≤ 1000000 := by
      have := h e (List.mem_append_right _ (List.mem_singleton.mpr rfl))
      rcases he with z | z <;> · rw [z] at this; exact this
    have hk1 : 1 ≤ k * m := by
      have := Int.mul_le_mul k1 m1 (by omega) (by omega)
      omega
    refine .leaf (k := k * m) (ih fun e he => h e (List.mem_append_left _ he)) ha hb ?_ hk1 hk
    rcases he with z | z <;> rw [z]
    · exact .inl rfl
    · exact .inr rfl
theorem IsTree.scl {m : Int} (m1 : 1 ≤ m) {pl : List Nm} {ts : List Tie} (h : IsTree pl ts) (le : ∀ e ∈ ts, e.2.2 * m ≤ 1000000) : IsTree pl (ts.map (scl m)) := by
  obtain ⟨os, es, g, p, q⟩ := h
  exact ⟨os, es.map (Far.scl m), g.scl m1 fun e he => le e (q.mem_iff.mpr he), p, q.map _⟩
/-- a tree, and the same so many times as long -/
structure Scl (m : Int) (pl : List Nm) (ts : List Tie) : Prop where
  F : Fine pl ts
  m1 : 1 ≤ m
  le : ∀ e ∈ ts, e.2.2 * m ≤ 1000000
section
variable {pl : List Nm} {ts : List Tie} {m : Int}
theorem Scl.it (z : Scl m pl ts) : IsTree pl (ts.map (scl m)) := z.F.tree.scl z.m1 z.le
theorem Scl.fine (z : Scl m pl ts) : Fine pl (ts.map (scl m)) := ⟨z.it, z.F.ok, z.F.len⟩
theorem Scl.way (z : Scl m pl ts) {u v : Nm} (hu : u ∈ pl) (hv : v ∈ pl) : path (ts.map (scl m)) u v = path ts u v ∧ dist (ts.map (scl m)) u v = dist ts u v * m := z.it.is_way (z.F.tree.the_way hu hv).scl
def tms (m : Int) (x : Tri) : Tri := (x.1 * m, x.2)
theorem fm_congr {α β : Type} {f g : α → List β} : ∀ {l : List α}, (∀ x ∈ l, f x = g x) → l.flatMap f = l.flatMap g
  | [], _ => rfl
  | x :: r, h => by rw [List.flatMap_cons, List.flatMap_cons, h x List.mem_cons_self, fm_congr fun y hy => h y (List.mem_cons_of_mem _ hy)]
theorem Scl.prs (z : Scl m pl ts) : pairsOf pl (ts.map (scl m)) = (pairsOf pl ts).map (tms m) := by
  unfold pairsOf Far.prs
  rw [List.map_flatMap]
  refine fm_congr fun i hi => ?_
  have il := List.mem_range.mp hi
  unfold rowP
  rw [List.map_map]
  refine List.map_congr_left fun y hy => ?_
  have yp := List.mem_of_mem_drop hy
  have xp : pl.getD i [] ∈ pl := by
    rw [List.getD, List.getElem?_eq_getElem il]
    exact List.getElem_mem _
  rw [(z.way xp yp).2]
  rfl
theorem lt_tms (m1 : 1 ≤ m) {a b : Int} : a * m < b * m ↔ a < b := Int.mul_lt_mul_right (by omega)
theorem le_tms (m1 : 1 ≤ m) {a b : Int} : a * m ≤ b * m ↔ a ≤ b := Int.mul_le_mul_right (by omega)
theorem eq_tms (m1 : 1 ≤ m) {a b : Int} : a * m = b * m ↔ a = b := ⟨fun h => Int.eq_of_mul_eq_mul_right (by omega) h, fun h => by rw [h]⟩
theorem topT_tms (m1 : 1 ≤ m) : ∀ (ps : List Tri) (x : Tri), topT (tms m x) (ps.map (tms m)) = tms m (topT x ps)
  | [], _ => rfl
  | y :: r, x => by
    have e1 : topT x (y :: r) = topT (if y.1 > x.1 then y else x) r := rfl
    have e2 : topT (tms m x) ((y :: r).map (tms m)) = topT (if (tms m y).1 > (tms m x).1 then tms m y else tms m x) (r.map (tms m)) := rfl
    rw [e1, e2, ← topT_tms m1 r]
    by_cases c : y.1 > x.1
    · rw [if_pos c, if_pos (by exact (lt_tms m1).mpr c)]
    · rw [if_neg c, if_neg (by exact fun q => c ((lt_tms m1).mp q))]
theorem Scl.top (z : Scl m pl ts) : topOf pl (ts.map (scl m)) = tms m (topOf pl ts) := by
  unfold topOf
  rw [z.prs, ← topT_tms z.m1]
  refine congrArg (fun t => topT t _) ?_
  show ((0 : Int), pl.headD [], pl.headD []) = ((0 : Int) * m, pl.headD [], pl.headD [])
  rw [Int.zero_mul]
theorem mxG_tms (m1 : 1 ≤ m) {l : List Int} (ne : l ≠ []) : mxG (l.map fun x => x * m) = mxG l * m := by
  obtain ⟨h1, h2⟩ := mxG_in ne
  exact (mxG_is (List.mem_map.mpr ⟨_, h1, rfl⟩) fun y hy => by
    obtain ⟨x, hx, rfl⟩ := List.mem_map.mp hy
    exact (le_tms m1).mpr (h2 x hx)).symm
theorem mnG_tms (m1 : 1 ≤ m) {l : List Int} (ne : l ≠ []) : mnG (l.map fun x => x * m) = mnG l * m := by
  obtain ⟨h1, h2⟩ := mnG_in ne
  exact (mnG_is (List.mem_map.mpr ⟨_, h1, rfl⟩) fun y hy => by
    obtain ⟨x, hx, rfl⟩ := List.mem_map.mp hy
    exact (le_tms m1).mpr (h2 x hx)).symm
theorem Scl.rch (z : Scl m pl ts) {u : Nm} (hu : u ∈ pl) : Far.rch pl (ts.map (scl m)) u = Far.rch pl ts u * m := by
  unfold Far.rch
  rw [← mxG_tms z.m1 (fun q => z.F.ne (List.map_eq_nil_iff.mp q)), List.map_map]
  exact congrArg mxG (List.map_congr_left fun y hy => (z.way hu hy).2)
theorem Scl.rchs (z : Scl m pl ts) : pl.map (Far.rch pl (ts.map (scl m))) = (pl.map (Far.rch pl ts)).map fun x => x * m := by
  rw [List.map_map]
  exact List.map_congr_left fun y hy => z.rch hy
theorem Scl.midN (z : Scl m pl ts) : Far.midN pl (ts.map (scl m)) = Far.midN pl ts * m := by
  unfold Far.midN
  rw [z.rchs, mnG_tms z.m1 (fun q => z.F.ne (List.map_eq_nil_iff.mp q))]
theorem those_eq {f g : Nm → Int} {a b : Int} (h : ∀ x ∈ pl, (f x = a) ↔ (g x = b)) : thoseD pl f a = thoseD pl g b := by
  unfold thoseD
  refine congrArg (fun l => PyData.tuple (l.map strD)) (List.filter_congr fun x hx => ?_)
  show (f x == a) = (g x == b)
  by_cases c : f x = a
  · rw [c, (h x hx).mp c, beq_self_eq_true, beq_self_eq_true]
  · rw [beq_false_of_ne c, beq_false_of_ne fun q => c ((h x hx).mpr q)]
theorem Scl.mids (z : Scl m pl ts) : thoseD pl (Far.rch pl (ts.map (scl m))) (Far.midN pl (ts.map (scl m))) = thoseD pl (Far.rch pl ts) (Far.midN pl ts) :=
  those_eq fun x hx => by rw [z.rch hx, z.midN, eq_tms z.m1]
theorem sum_tms (f : Nm → Int) : ∀ l : List Nm, (l.map fun x => f x * m).sum = (l.map f).sum * m
  | [] => by simp
  | x :: r => by rw [List.map_cons, List.map_cons, List.sum_cons, List.sum_cons, sum_tms f r, Int.add_mul]
theorem Scl.sum (z : Scl m pl ts) {u : Nm} (hu : u ∈ pl) : sumOf pl (ts.map (scl m)) u = sumOf pl ts u * m := by
  unfold sumOf
  rw [List.map_congr_left fun x hx => (z.way hu hx).2, sum_tms]
theorem Scl.sums (z : Scl m pl ts) : pl.map (sumOf pl (ts.map (scl m))) = (pl.map (sumOf pl ts)).map fun x => x * m := by
  rw [List.map_map]
  exact List.map_congr_left fun y hy => z.sum hy
theorem Scl.leastN (z : Scl m pl ts) : Far.leastN pl (ts.map (scl m)) = Far.leastN pl ts * m := by
  unfold Far.leastN
  rw [z.sums, mnG_tms z.m1 (fun q => z.F.ne (List.map_eq_nil_iff.mp q))]
theorem Scl.least (z : Scl m pl ts) : leastD pl (ts.map (scl m)) = leastD pl ts := by
  unfold leastD
  exact those_eq fun x hx => by rw [z.sum hx, z.leastN, eq_tms z.m1]
theorem sum_tmsI : ∀ l : List Int, (l.map fun x => x * m).sum = l.sum * m
  | [] => by simp
  | x :: r => by rw [List.map_cons, List.sum_cons, List.sum_cons, sum_tmsI r, Int.add_mul]
theorem Scl.lens (z : Scl m pl ts) : lensOf pl (ts.map (scl m)) = (lensOf pl ts).map fun x => x * m := by
  unfold lensOf
  rw [z.prs, List.map_map, List.map_map]
  rfl
theorem Scl.tot (z : Scl m pl ts) : totOf pl (ts.map (scl m)) = totOf pl ts * m := by
  have := z.lens
  unfold lensOf at this
  unfold totOf
  rw [this, sum_tmsI]
end
end Far

namespace Far
open PySem PySem.Spec PyProof.Rows L2
open SX (S)
section
variable {pl : List Nm} {ts : List Tie} {m : Int}
/-! ### the middle -/
theorem cutIx_tms (m1 : 1 ≤ m) : ∀ (g : List Int) (W : Int), cutIx (g.map fun z => z * m) (W * m) = cutIx g W
  | [], _ => rfl
  | z :: r, W => by
    have ih := cutIx_tms m1 r W
    unfold cutIx at *
    have e : 2 * (z * m) < W * m ↔ 2 * z < W := by
      rw [← Int.mul_assoc]
      exact lt_tms m1
    rw [List.map_cons, List.filter_cons, List.filter_cons]
    by_cases c : 2 * z < W
    · rw [if_pos (decide_eq_true (e.mpr c)), if_pos (decide_eq_true c), List.length_cons, List.length_cons, ih]
    · rw [if_neg (fun y => c (e.mp (of_decide_eq_true y))), if_neg (fun y => c (of_decide_eq_true y)), ih]
theorem Scl.mid (z : Scl m pl ts) {u x : Nm} (hu : u ∈ pl) (hx : x ∈ pl) : hi (ts.map (scl m)) u x = hi ts u x ∧ lo (ts.map (scl m)) u x = lo ts u x := by
  have h := z.F.tree
  have w := h.the_way hu hx
  have ins := w.inside (fun e he => ⟨(h.ties e he).1, (h.ties e he).2.1⟩) hu
  obtain ⟨e1, e2⟩ := z.way hu hx
  have eg : goneOf (ts.map (scl m)) u x = (goneOf ts u x).map fun z => z * m := by
    unfold goneOf
    rw [e1, List.map_map]
    exact List.map_congr_left fun y hy => (z.way hu (ins y hy)).2
  have ek : midK (ts.map (scl m)) u x = midK ts u x := by
    unfold midK
    rw [eg, e2, cutIx_tms z.m1]
  unfold hi lo
  rw [e1, ek]
  exact ⟨rfl, rfl⟩
/-- the middle point of the tree, and of the longer one: the halves apart -/
theorem Scl.point (z : Scl m pl ts) {u x : Nm} (hu : u ∈ pl) (hx : x ∈ pl) : ∃ (a b : Nm) (n : Int), a ∈ pl ∧ b ∈ pl ∧ 0 ≤ n ∧ pointD pl ts u x = .tuple [strD a, strD b, halfD n] ∧ pointD pl (ts.map (scl m)) u x = .tuple [strD a, strD b, halfD (n * m)] := by
  have h := z.F.tree
  have m1 := z.m1
  have w := h.the_way hu hx
  have ins := w.inside (fun e he => ⟨(h.ties e he).1, (h.ties e he).2.1⟩) hu
  have mf := mid_facts h hu hx
  have hm := ins _ mf.hiM
  obtain ⟨e1, e2⟩ := z.way hu hx
  obtain ⟨k1, k2⟩ := z.mid hu hx
  have ge := mf.ge
  unfold pointD
  rw [k1, k2, e2, (z.way hu hm).2]
  by_cases c : 2 * dist ts u (hi ts u x) = dist ts u x
  · rw [if_pos c, if_pos (by rw [← c, Int.mul_assoc])]
    refine ⟨_, _, 0, hm, hm, Int.le_refl _, ?_, ?_⟩
    · rfl
    · rw [Int.zero_mul]
      rfl
  · have lm := ins _ (mf.loE c).2.2.1
    have ll := (mf.loE c).2.2.2
    have c' : ¬ 2 * (dist ts u (hi ts u x) * m) = dist ts u x * m := by
      rw [← Int.mul_assoc]
      exact fun q => c ((eq_tms m1).mp q)
    rw [if_neg c, if_neg c', (z.way hu lm).2]
    by_cases c2 : pl.idxOf (lo ts u x) < pl.idxOf (hi ts u x)
    · rw [if_pos c2, if_pos c2]
      refine ⟨_, _, dist ts u x - 2 * dist ts u (lo ts u x), lm, hm, by omega, rfl, ?_⟩
      rw [Int.sub_mul, Int.mul_assoc]
    · rw [if_neg c2, if_neg c2]
      refine ⟨_, _, 2 * dist ts u (hi ts u x) - dist ts u x, hm, lm, by omega, rfl, ?_⟩
      rw [Int.sub_mul, Int.mul_assoc]
/-! ### the pairs -/
theorem best_tms (m1 : 1 ≤ m) : ∀ {ps : List Tri}, ps ≠ [] → best (ps.map (tms m)) = best ps * m := fun {ps} ne => by
  have b := fun (m' : Int) => best_is (ps := ps) (m := m')
  obtain ⟨x, hx, hle⟩ : ∃ x ∈ ps, ∀ y ∈ ps, y.1 ≤ x.1 := by
    have := mxG_in (l := ps.map (·.1)) (fun q => ne (List.map_eq_nil_iff.mp q))
    obtain ⟨x, hx, e⟩ := List.mem_map.mp this.1
    exact ⟨x, hx, fun y hy => by rw [e]; exact this.2 _ (List.mem_map.mpr ⟨y, hy, rfl⟩)⟩
  have e1 : best ps = x.1 := best_is (List.mem_map.mpr ⟨x, hx, rfl⟩) fun y hy => by
    obtain ⟨y', hy', rfl⟩ := List.mem_map.mp hy
    exact hle y' hy'
  rw [e1]
  refine best_is ?_ fun y hy => ?_
  · rw [List.map_map]
    exact List.mem_map.mpr ⟨x, hx, rfl⟩
  · rw [List.map_map] at hy
    obtain ⟨y', hy', rfl⟩ := List.mem_map.mp hy
    exact (le_tms m1).mpr (hle y' hy')
theorem Scl.farOf (z : Scl m pl ts) : Far.farOf pl (ts.map (scl m)) = (Far.farOf pl ts).map (tms m) := by
  unfold Far.farOf
  rw [z.prs]
  by_cases ne : pairsOf pl ts = []
  · rw [ne]
    rfl
  · rw [best_tms z.m1 ne, List.filter_map]
    refine congrArg (List.map (tms m)) (List.filter_congr fun x hx => ?_)
    show (x.1 * m == best (pairsOf pl ts) * m) = (x.1 == best (pairsOf pl ts))
    by_cases c : x.1 = best (pairsOf pl ts)
    · rw [c, beq_self_eq_true, beq_self_eq_true]
    · rw [beq_false_of_ne c, beq_false_of_ne fun q => c ((eq_tms z.m1).mp q)]
theorem Scl.allD (z : Scl m pl ts) : Far.allD pl (ts.map (scl m)) = Far.allD pl ts := by
  unfold Far.allD
  rw [z.farOf, List.map_map]
  rfl
theorem sort_tms (m1 : 1 ≤ m) (ps : List Tri) : ((ps.map (tms m)).mergeSort fun x y => decide (-x.1 ≤ -y.1)) = (ps.mergeSort fun x y => decide (-x.1 ≤ -y.1)).map (tms m) := by
  rw [List.map_mergeSort]
  intro a _ b _
  show decide (-a.1 ≤ -b.1) = decide (-(a.1 * m) ≤ -(b.1 * m))
  refine decide_eq_decide.mpr ?_
  rw [Int.neg_le_neg_iff, Int.neg_le_neg_iff]
  exact (le_tms m1).symm
theorem Scl.byFar (z : Scl m pl ts) : Far.byFar pl (ts.map (scl m)) = (Far.byFar pl ts).map (tms m) := by
  unfold Far.byFar
  rw [z.prs, sort_tms z.m1]
theorem Scl.cnt (z : Scl m pl ts) (n : Int) : cntD (lensOf pl (ts.map (scl m))) (n * m) = cntD (lensOf pl ts) n := by
  unfold cntD
  rw [z.lens, List.countP_map, List.filter_map, List.length_map]
  have e1 : ((fun z => z == n * m) ∘ fun x => x * m) = fun z : Int => z == n := funext fun x => by
    show (x * m == n * m) = (x == n)
    by_cases c : x = n
    · rw [c, beq_self_eq_true, beq_self_eq_true]
    · rw [beq_false_of_ne c, beq_false_of_ne fun q => c ((eq_tms z.m1).mp q)]
  have e2 : ((fun z => decide (z > n * m)) ∘ fun x => x * m) = fun z : Int => decide (z > n) := funext fun x => decide_eq_decide.mpr (lt_tms z.m1)
  rw [e1, e2]
/-! ### the joins -/
theorem mx2_tms (m1 : 1 ≤ m) (a b : Int) : mx2 (a * m) (b * m) = mx2 a b * m := by
  unfold mx2
  by_cases c : b > a
  · rw [if_pos c, if_pos ((lt_tms m1).mpr c)]
  · rw [if_neg c, if_neg fun q => c ((lt_tms m1).mp q)]
variable {pl' : List Nm} {ts' : List Tie}
theorem Scl.joins (z : Scl m pl ts) (z' : Scl m pl' ts') (k : Int) : ∀ l : List Nm, (∀ x ∈ l, x ∈ pl) → joinsOf pl pl' (ts.map (scl m)) (ts'.map (scl m)) (k * m) l = (joinsOf pl pl' ts ts' k l).map (tms m) := fun l hl => by
  unfold joinsOf
  rw [List.map_flatMap]
  refine fm_congr fun x hx => ?_
  rw [List.map_map]
  refine List.map_congr_left fun y hy => ?_
  have mx := hl x hx
  show joinT pl pl' (ts.map (scl m)) (ts'.map (scl m)) (k * m) x y = tms m (joinT pl pl' ts ts' k x y)
  unfold joinT insN
  rw [z.rchs, z'.rchs, mxG_tms z.m1 (fun q => z.F.ne (List.map_eq_nil_iff.mp q)), mxG_tms z.m1 (fun q => z'.F.ne (List.map_eq_nil_iff.mp q)), z.rch mx, z'.rch hy, mx2_tms z.m1, ← Int.add_mul, ← Int.add_mul, mx2_tms z.m1]
  rfl
end
end Far

namespace Far
open PySem PySem.Spec PyProof.Rows L2
open SX (S)
/-! ### the first of the least -/
theorem FL.uni {l : List Tri} {f : Tri → Int} {x y : Tri} (h : FL l f x) (h' : FL l f y) : x = y := by
  obtain ⟨i, e, a, b⟩ := h
  obtain ⟨j, e', a', b'⟩ := h'
  rcases Nat.lt_trichotomy i j with lt | eq | lt
  · have := b' i x lt e
    have := a j y e'
    omega
  · subst eq
    exact Option.some.inj (e.symm.trans e')
  · have := b j y lt e'
    have := a' i x e
    omega
theorem FL.tms {m : Int} {l : List Tri} {g : Int → Int} (hg : ∀ a b : Int, g (a * m) ≤ g (b * m) ↔ g a ≤ g b) {x : Tri} (h : FL l (fun z => g z.1) x) : FL (l.map (tms m)) (fun z => g z.1) (Far.tms m x) := by
  obtain ⟨i, e, a, b⟩ := h
  have at_ : ∀ (j : Nat) (z : Tri), (l.map (Far.tms m))[j]? = some z → ∃ y, l[j]? = some y ∧ z = Far.tms m y := fun j z hz => by
    rw [List.getElem?_map] at hz
    cases h : l[j]? with
    | none => rw [h] at hz; cases hz
    | some y => rw [h] at hz; exact ⟨y, rfl, (Option.some.inj hz).symm⟩
  refine ⟨i, by rw [List.getElem?_map, e]; rfl, fun j z hz => ?_, fun j z hj hz => ?_⟩
  · obtain ⟨y, hy, rfl⟩ := at_ j z hz
    exact (hg _ _).mpr (a j y hy)
  · obtain ⟨y, hy, rfl⟩ := at_ j z hz
    have h1 := b j y hj hy
    have h2 : ¬ g (y.1 * m) ≤ g (x.1 * m) := fun q => by
      have h1 : g x.1 < g y.1 := h1
      have := (hg _ _).mp q
      omega
    show g (x.1 * m) < g (y.1 * m)
    omega
theorem FLq.uni {l : List Qua} {x y : Qua} (h : FLq l x) (h' : FLq l y) : x = y := by
  obtain ⟨i, e, a, b⟩ := h
  obtain ⟨j, e', a', b'⟩ := h'
  rcases Nat.lt_trichotomy i j with lt | eq | lt
  · have := b' i x lt e
    have := a j y e'
    omega
  · subst eq
    exact Option.some.inj (e.symm.trans e')
  · have := b j y lt e'
    have := a' i x e
    omega
def tmsQ (m : Int) (x : Qua) : Qua := (x.1 * m, x.2)
theorem FLq.tms {m : Int} (m1 : 1 ≤ m) {l : List Qua} {x : Qua} (h : FLq l x) : FLq (l.map (tmsQ m)) (tmsQ m x) := by
  obtain ⟨i, e, a, b⟩ := h
  have at_ : ∀ (j : Nat) (z : Qua), (l.map (tmsQ m))[j]? = some z → ∃ y, l[j]? = some y ∧ z = tmsQ m y := fun j z hz => by
    rw [List.getElem?_map] at hz
    cases h : l[j]? with
    | none => rw [h] at hz; cases hz
    | some y => rw [h] at hz; exact ⟨y, rfl, (Option.some.inj hz).symm⟩
  refine ⟨i, by rw [List.getElem?_map, e]; rfl, fun j z hz => ?_, fun j z hj hz => ?_⟩
  · obtain ⟨y, hy, rfl⟩ := at_ j z hz
    exact (le_tms m1).mpr (a j y hy)
  · obtain ⟨y, hy, rfl⟩ := at_ j z hz
    exact (lt_tms m1).mpr (b j y hj hy)
section
variable {pl : List Nm} {ts : List Tie} {m : Int}
/-! ### the parts without a tie -/
theorem Scl.near (z : Scl m pl ts) {e : Tie} (he : e ∈ ts) : nearP pl (ts.map (scl m)) (scl m e) = nearP pl ts e ∧ offP pl (ts.map (scl m)) (scl m e) = offP pl ts e := by
  obtain ⟨i1, i2, _⟩ := z.F.tree.ties e he
  have k : ∀ x ∈ pl, decide (dist (ts.map (scl m)) e.1 x < dist (ts.map (scl m)) e.2.1 x) = decide (dist ts e.1 x < dist ts e.2.1 x) := fun x hx => by
    rw [(z.way i1 hx).2, (z.way i2 hx).2]
    exact decide_eq_decide.mpr (lt_tms z.m1)
  constructor
  · unfold nearP
    exact List.filter_congr fun x hx => k x hx
  · unfold offP
    exact List.filter_congr fun x hx => congrArg not (k x hx)
theorem Scl.rP (z : Scl m pl ts) {ps : List Nm} (ne : ps ≠ []) (sub : ∀ x ∈ ps, x ∈ pl) {x : Nm} (hx : x ∈ pl) : Far.rP (ts.map (scl m)) ps x = Far.rP ts ps x * m := by
  unfold Far.rP
  rw [← mxG_tms z.m1 (fun q => ne (List.map_eq_nil_iff.mp q)), List.map_map]
  exact congrArg mxG (List.map_congr_left fun y hy => (z.way hx (sub y hy)).2)
theorem near_sub (e : Tie) : ∀ x ∈ nearP pl ts e, x ∈ pl := fun x hx => (List.mem_filter.mp hx).1
theorem off_sub (e : Tie) : ∀ x ∈ offP pl ts e, x ∈ pl := fun x hx => (List.mem_filter.mp hx).1
theorem Scl.prt (z : Scl m pl ts) {i : Nat} {e : Tie} (he : ts[i]? = some e) : mxA pl (ts.map (scl m)) (scl m e) = mxA pl ts e * m ∧ mxB pl (ts.map (scl m)) (scl m e) = mxB pl ts e * m := by
  have c := z.F.tree.cutF he
  have ne1 : nearP pl ts e ≠ [] := fun q => by have := c.ma; rw [q] at this; cases this
  have ne2 : offP pl ts e ≠ [] := fun q => by have := c.mb; rw [q] at this; cases this
  obtain ⟨n1, n2⟩ := z.near (List.mem_of_getElem? he)
  constructor
  · unfold mxA
    rw [n1, ← mxG_tms z.m1 (fun q => ne1 (List.map_eq_nil_iff.mp q)), List.map_map]
    exact congrArg mxG (List.map_congr_left fun y hy => z.rP ne1 (near_sub e) (near_sub e y hy))
  · unfold mxB
    rw [n2, ← mxG_tms z.m1 (fun q => ne2 (List.map_eq_nil_iff.mp q)), List.map_map]
    exact congrArg mxG (List.map_congr_left fun y hy => z.rP ne2 (off_sub e) (off_sub e y hy))
theorem Scl.over (z : Scl m pl ts) {i : Nat} {e : Tie} (he : ts[i]? = some e) {x y : Nm} (hx : x ∈ pl) (hy : y ∈ pl) : overE pl (ts.map (scl m)) (scl m e) x y = overE pl ts e x y * m := by
  have c := z.F.tree.cutF he
  have ne1 : nearP pl ts e ≠ [] := fun q => by have := c.ma; rw [q] at this; cases this
  have ne2 : offP pl ts e ≠ [] := fun q => by have := c.mb; rw [q] at this; cases this
  obtain ⟨n1, n2⟩ := z.near (List.mem_of_getElem? he)
  have r : ∀ u ∈ pl, rE pl (ts.map (scl m)) (scl m e) u = rE pl ts e u * m := fun u hu => by
    unfold rE
    rw [n1, n2]
    by_cases k : u ∈ nearP pl ts e
    · rw [if_pos k, if_pos k]
      exact z.rP ne1 (near_sub e) hu
    · rw [if_neg k, if_neg k]
      exact z.rP ne2 (off_sub e) hu
  have ins : insE pl (ts.map (scl m)) (scl m e) = insE pl ts e * m := by
    unfold insE
    rw [n1, n2, ← mxG_tms z.m1 (fun q => ne1 (List.append_eq_nil_iff.mp (List.map_eq_nil_iff.mp q)).1), List.map_map]
    exact congrArg mxG (List.map_congr_left fun u hu => r u ((List.mem_append.mp hu).elim (near_sub e u) (off_sub e u)))
  unfold overE
  rw [ins, r x hx, r y hy, ← mx2_tms z.m1]
  show mx2 _ (rE pl ts e x * m + e.2.2 * m + rE pl ts e y * m) = _
  rw [← Int.add_mul, ← Int.add_mul]
theorem btw_in (ps : List Nm) : ∀ n : Nat, n ≤ pl.length → ∀ q ∈ btw pl ps n, q.1 ∈ pl ∧ q.2 ∈ pl
  | 0, _, q, h => by cases h
  | n + 1, hn, q, h => by
    rw [btw_succ] at h
    rcases List.mem_append.mp h with h | h
    · exact btw_in ps n (by omega) q h
    · obtain ⟨y, hy, rfl⟩ := List.mem_map.mp h
      have yp := List.mem_of_mem_drop (List.mem_filter.mp hy).1
      refine ⟨?_, yp⟩
      show pl.getD n [] ∈ pl
      rw [List.getD, List.getElem?_eq_getElem (by omega : n < pl.length)]
      exact List.getElem_mem _
theorem Scl.chs (z : Scl m pl ts) {i : Nat} {e : Tie} (he : ts[i]? = some e) : Far.chs pl (ts.map (scl m)) i (scl m e) = (Far.chs pl ts i e).map (tmsQ m) := by
  unfold Far.chs
  rw [(z.near (List.mem_of_getElem? he)).1, List.map_map]
  refine List.map_congr_left fun q hq => ?_
  obtain ⟨h1, h2⟩ := btw_in (nearP pl ts e) pl.length (Nat.le_refl _) q hq
  show (overE pl (ts.map (scl m)) (scl m e) q.1 q.2, (i : Int), q.1, q.2) = tmsQ m (overE pl ts e q.1 q.2, (i : Int), q.1, q.2)
  rw [z.over he h1 h2]
  rfl
theorem Scl.allC (z : Scl m pl ts) : ∀ n : Nat, n ≤ ts.length → Far.allC pl (ts.map (scl m)) n = (Far.allC pl ts n).map (tmsQ m)
  | 0, _ => rfl
  | n + 1, hn => by
    have ih := z.allC n (by omega)
    obtain ⟨e, he⟩ : ∃ e, ts[n]? = some e := ⟨ts[n]'(by omega), List.getElem?_eq_getElem (by omega)⟩
    have e1 : ts.getD n ([], [], 0) = e := by rw [List.getD, he]; rfl
    have e2 : (ts.map (scl m)).getD n ([], [], 0) = scl m e := by rw [List.getD, List.getElem?_map, he]; rfl
    rw [allC_succ, allC_succ, e1, e2, z.chs he, ih, List.map_append]
/-! ### leaves, and leaves taken off -/
theorem deg_scl (x : Nm) : deg (ts.map (scl m)) x = deg ts x := by
  unfold deg
  rw [List.map_map, List.map_map]
  rfl
theorem leaves_scl : leavesOf pl (ts.map (scl m)) = leavesOf pl ts := by
  unfold leavesOf
  exact List.filter_congr fun x _ => by rw [deg_scl]
def sclT (m : Int) (T : Tr2) : Tr2 := (T.1, T.2.map (scl m))
theorem wi_scl (T : Tr2) : wi (sclT m T) = sclT m (wi T) := by
  unfold wi
  by_cases c : T.1.length ≤ 2
  · rw [if_pos c, if_pos (by exact c)]
  · rw [if_neg c, if_neg (by exact c)]
    show (butL T.1 (leavesOf T.1 (T.2.map (scl m))), remL (T.2.map (scl m)) (leavesOf T.1 (T.2.map (scl m)))) = _
    rw [leaves_scl]
    unfold remL
    rw [List.filter_map]
    rfl
theorem Peel.scl {T : Tr2} {L : List Tr2} (h : Peel T L) : Peel (sclT m T) (L.map (sclT m)) := by
  induction h with
  | one c => exact .one c
  | cons c p ih =>
    rw [← wi_scl] at ih
    exact .cons c ih
/-! ### fewest places so near -/
theorem Scl.cv (z : Scl m pl ts) {L : Int} {g : Nat → Bool} : Cv pl (ts.map (scl m)) (L * m) g ↔ Cv pl ts L g := by
  have k : ∀ a < pl.length, ∀ b < pl.length, dist (ts.map (scl m)) (nm pl a) (nm pl b) ≤ L * m ↔ dist ts (nm pl a) (nm pl b) ≤ L := fun a ha b hb => by
    rw [(z.way (nm_mem ha).1 (nm_mem hb).1).2]
    exact le_tms z.m1
  exact ⟨fun h i hi => by
    obtain ⟨a, ha, hg, hd⟩ := h i hi
    exact ⟨a, ha, hg, (k a ha i hi).mp hd⟩, fun h i hi => by
    obtain ⟨a, ha, hg, hd⟩ := h i hi
    exact ⟨a, ha, hg, (k a ha i hi).mpr hd⟩⟩
theorem Scl.few (z : Scl m pl ts) {L : Int} {g : Nat → Bool} (h : FewIs pl ts L g) : FewIs pl (ts.map (scl m)) (L * m) g :=
  ⟨z.cv.mpr h.cov, fun k hk => h.top k (z.cv.mp hk)⟩
end
end Far

namespace Far
open PySem PySem.Spec PyProof.Rows L2
open C8 (pss_cut tCut)
open SX (S)
structure Txt35 (mg : Str → Option Value) : Prop where
  len : mg "len" = none
  tuple : mg "tuple" = none
  list : mg "list" = none
  range : mg "range" = none
abbrev s_law_drawn : Stmt := topS 59
abbrev N_law_drawn : List Str := ["deck", "tree"]
theorem sc_law_drawn : FnScope N_law_drawn ["deck", "tree"] (defScope s_law_drawn) := ⟨rfl, rfl, rfl, by decide +kernel, rfl, by decide +kernel, by decide +kernel⟩
abbrev s_law_longer : Stmt := topS 60
abbrev N_law_longer : List Str := ["tree", "times", "one", "other", "length"]
theorem sc_law_longer : FnScope N_law_longer ["tree", "times"] (defScope s_law_longer) := ⟨rfl, rfl, rfl, by decide +kernel, rfl, by decide +kernel, by decide +kernel⟩
abbrev s_law_fraction : Stmt := topS 61
abbrev N_law_fraction : List Str := ["part", "times", "above", "below", "one", "other"]
theorem sc_law_fraction : FnScope N_law_fraction ["part", "times"] (defScope s_law_fraction) := ⟨rfl, rfl, rfl, by decide +kernel, rfl, by decide +kernel, by decide +kernel⟩
section
variable {P : Program} {w : World} {K : PySem.W.Frag} {mg : Str → Option Value} {base : Heap}
def spDrawn : Sp := fun vs H Q _ => ∃ (d : Addr) (v : V) (n : Nat) (pl : List Nm) (ts : List Tie), vs = [.ref d, v] ∧ SeedAt H d n ∧ n < 90000 ∧ Dt H v (treeD pl ts) ∧ pl ≠ [] ∧ pl.length ≤ 1000 ∧
  ∀ (H' : Hp) (x : Nm), x ∈ pl → SmX d H H' → SeedAt H' d (n + 1) → Q (.str (S x)) H'
theorem ok_drawn {f : Addr} {fd : FuncData} (F : Fun K "_law_drawn" "_law_drawn" s_law_drawn f fd) (T : Txt35 mg) (C_law_draw : Cal P w K mg base 1 "_law_draw" spDraw) : FnOk P w K mg base CX0 2 f fd ["deck", "tree"] spDrawn := by
  refine F.ok sc_law_drawn (fun vs H Q E h => ?_) (fun cdv A outer s H vs Q E hr h => ?_)
  · obtain ⟨d, v, n, pl, ts, rfl, _⟩ := h
    rfl
  · obtain ⟨d, v, n, pl, ts, rfl, hD, hn, hd, ne, p1000, q⟩ := h
    obtain ⟨t, a, b, vs, rfl, ht, ha, hb, hA⟩ := dt_tree hd
    have en : ((pl.map S).map V.str).length = pl.length := by rw [List.length_map, List.length_map]
    have pp : 0 < pl.length := List.length_pos_iff.mpr ne
    refine ⟨_, (pss_one (ps_ret (pe_ix ix_tup (pe_ix ix_tup (pv 1) pe_int (fun _ _ => rfl)) (pe_c C_law_draw hr (by decide) rfl (pa_cons (pv 0) (pa_cons (pe_callB call_len_seq (by rfl) T.len bt_len (pa_cons (pe_ix ix_tup (pv 1) pe_int (fun _ _ => rfl)) pa_nil)) pa_nil))) (fun _ _ => rfl)))), ?_⟩
    refine ⟨_, rfl, t, _, 0, .ref a, rfl, rfl, SqT.of ht, atI_nat (j := 0) rfl, ?_⟩
    refine ⟨_, rfl, _, rfl, t, _, 0, .ref a, rfl, rfl, SqT.of ht, atI_nat (j := 0) rfl, a, _, rfl, .inr ha.sq, d, n, (pl.length : Int), by rw [en]; rfl, hD, by omega, by omega, by omega, fun H' r r0 r1 S1 D1 => ?_⟩
    obtain ⟨x, hx, hxv⟩ : ∃ y : Nm, y ∈ pl ∧ atI ((pl.map S).map V.str) r = some (.str (S y)) := by
      obtain ⟨v, hv, mv⟩ := atI_in (xs := (pl.map S).map V.str) r0 (by rw [en]; exact r1)
      obtain ⟨y, my, rfl⟩ := strs_at mv
      exact ⟨y, my, hv⟩
    exact ⟨a, _, r, _, rfl, rfl, (ha.tk (hD.tk S1)).sq, hxv, q _ x hx S1 D1⟩
/-- the ties' lengths changed by g, as a comprehension makes them -/
def upT (g : Int → Int) (e : Tie) : Tie := (e.1, e.2.1, g e.2.2)
def spLonger : Sp := fun vs H Q _ => ∃ (v : V) (pl : List Nm) (ts : List Tie) (m : Int), vs = [v, .int m] ∧ Dt H v (treeD pl ts) ∧ PlZ H v pl ∧ Fine pl ts ∧ ∀ (H' : Hp) (r : V), Same H H' → Dt H' r (treeD pl (ts.map (scl m))) → PlZ H' r pl → Q r H'
theorem ok_longer {f : Addr} {fd : FuncData} (F : Fun K "_law_longer" "_law_longer" s_law_longer f fd) (T : Txt35 mg) : FnOk P w K mg base CX0 1 f fd ["tree", "times"] spLonger := by
  refine F.ok sc_law_longer (fun vs H Q E h => ?_) (fun cdv A outer s H vs Q E hr h => ?_)
  · obtain ⟨v, pl, ts, m, rfl, _⟩ := h
    rfl
  · obtain ⟨v, pl, ts, m, rfl, hd, hz, fine, q⟩ := h
    obtain ⟨t, a, b, vs, rfl, ht, ha, hb, hA⟩ := dt_tree hd
    have tl := fine.tree.len
    have p1000 := fine.len
    have vl : vs.length = ts.length := by
      have := DtAll.len hA
      rwa [List.length_map] at this
    refine ⟨_, (pss_one (ps_ret (pe_tup (pa_cons (pe_ix ix_tup (pv 0) pe_int (fun _ _ => rfl)) (pa_cons (pe_tupleOf (by rfl) T.tuple (pe_lc (own := [("one", 2), ("other", 3), ("length", 4)]) (g := gTup K 3 (gCons (gName 2) (gCons (gName 3) (gCons (gName 4) gNil)))) (tt := tYes) rfl sc_law_longer.nd (pi_tup (pe_ix ix_tup (pv 0) pe_int (fun _ _ => rfl))) (blkOk_by (N := N_law_longer) (sc := defScope s_law_longer) (by decide +kernel)) (fun _ _ _ _ _ => (pg_tup rfl (pgs_cons (pg_name (i := 2) sc_law_longer.nd rfl (.inl rfl)) (pgs_cons (pg_name (i := 3) sc_law_longer.nd rfl (.inl rfl)) (pgs_cons (pg_name (i := 4) sc_law_longer.nd rfl (.inl rfl)) pgs_nil))))) (fun _ _ _ _ _ => pts_nil) (fun _ _ _ _ _ => (pe_tup (pa_cons (pv 2) (pa_cons (pv 3) (pa_cons (pe_op op_mul (pv 4) (pv 1)) pa_nil))))))) pa_nil))))), ?_⟩
    refine ⟨_, rfl, t, _, 0, .ref a, rfl, rfl, SqT.of ht, atI_nat (j := 0) rfl, _, rfl, t, _, 1, .ref b, rfl, rfl, SqT.of ht, atI_nat (j := 1) rfl, b, rfl, ⟨_, SqT.of hb⟩, fun D nD => ?_⟩
    refine lc_tup (K := K) (a := b) (xs := vs) (fun i H' => Same H H' ∧ ∃ ws : List V, H' D = some (.lst ws) ∧ DtAll H' ws ((ts.take i).map fun e => tieD (scl m e))) ⟨same_new (Same.refl H) nD, [], upd_same, .nil⟩ (fun i H' _ hP => SqT.of (hP.1 _ _ hb)) (fun i v H' hi hP => ?_) (fun H' hP => ?_)
    · obtain ⟨SM, ws, hD, hW⟩ := hP
      obtain ⟨e, p3, he, rfl, hp3⟩ := tie_at (DtAll.keep (TK.of SM) hA) hi
      have il := (List.getElem?_eq_some_iff.mp he).1
      obtain ⟨_, _, k1, k2⟩ := fine.tree.ties e (List.mem_of_getElem? he)
      have wl := DtAll.len hW
      rw [List.length_map, List.length_take] at wl
      refine ⟨p3, _, rfl, SqT.of hp3, rfl, _, _, rfl, _, _, rfl, _, _, rfl, rfl, rfl, _, rfl, _, rfl, _, rfl, _, rfl, _, _, rfl, rfl, .inl ⟨by omega, by omega⟩, (by show 3 ≤ sizeLine; decide), fun o no => ?_⟩
      have X1 := same_new (o := .tup [.str (S e.1), .str (S e.2.1), .int (e.2.2 * m)]) (Same.refl H') no
      have hD1 := X1 _ _ hD
      have hW1 := DtAll.keep (TK.of X1) hW
      have ho : (upd H' o (.tup [.str (S e.1), .str (S e.2.1), .int (e.2.2 * m)])) o = some (.tup [.str (S e.1), .str (S e.2.1), .int (e.2.2 * m)]) := upd_same
      generalize upd H' o (.tup [.str (S e.1), .str (S e.2.1), .int (e.2.2 * m)]) = H1 at X1 hD1 hW1 ho
      have tk := TK.mut (o := .lst (ws ++ [.ref o])) hD1
      refine ⟨ws, hD1, sz_lt (by omega), same_put (SM.trans X1) nD, ws ++ [.ref o], upd_same, ?_⟩
      rw [List.take_add_one, he, List.map_append]
      exact DtAll.app (DtAll.keep tk hW1) (.cons (.tup (tk.tup _ _ ho) (.cons (.str _) (.cons (.str _) (.cons (.int _) .nil)))) .nil)
    · obtain ⟨SM, ws, hD, hW⟩ := hP
      rw [List.take_of_length_le (by omega)] at hW
      refine .inl ⟨D, _, rfl, SqL.of hD, fun g ng => ?_⟩
      refine ⟨(by show 2 ≤ sizeLine; decide), fun r nr => ?_⟩
      have X1 := same_new (o := .tup ws) SM ng
      have X2 := same_new (o := .tup [.ref a, .ref g]) X1 nr
      have k2 := (TK.new (o := .tup ws) ng).trans (TK.new (o := .tup [.ref a, .ref g]) nr)
      have hg := (TK.new (o := .tup [.ref a, .ref g]) nr).tup g ws upd_same
      refine q _ _ X2 (.tup upd_same (.cons (names_dt (ha.same X2) fine.ne) (.cons (.tup hg ?_) .nil))) ?_
      · rw [List.map_map]
        exact DtAll.keep k2 hW
      · obtain ⟨t', a', b', o, e, ht', od, haz⟩ := hz
        cases e
        have e2 : (HO.tup [V.ref a, V.ref b]) = .tup [.ref a', .ref b'] := Option.some.inj (ht.symm.trans ht')
        cases e2
        exact ⟨r, a, g, o, rfl, upd_same, od, X2 _ _ haz⟩
end
end Far

namespace Far
open PySem PySem.Spec PyProof.Rows L2
open C8 (pss_cut tCut)
open SX (S)
section
variable {P : Program} {w : World} {K : PySem.W.Frag} {mg : Str → Option Value} {base : Heap}
def spLFrac : Sp := fun vs H Q _ => ∃ (p : Addr) (a b n m : Int), vs = [.ref p, .int m] ∧ H p = some (.tup [.int a, .int b]) ∧ halfD n = .tuple [.int a, .int b] ∧ 0 ≤ n ∧ 1 ≤ m ∧ m ≤ 1000000 ∧ ∀ (H' : Hp) (r : V), Same H H' → Dt H' r (halfD (n * m)) → Q r H'
/-- a half so many times as great -/
theorem half_tms {n m a b : Int} (e : halfD n = .tuple [.int a, .int b]) (n0 : 0 ≤ n) (m1 : 1 ≤ m) : 0 ≤ a * m ∧ ((b = 1 ∧ halfD (n * m) = .tuple [.int (a * m), .int 1]) ∨ (b = 2 ∧ a * m % 2 = 0 ∧ halfD (n * m) = .tuple [.int (a * m / 2), .int 1]) ∨ (b = 2 ∧ a * m % 2 = 1 ∧ halfD (n * m) = .tuple [.int (a * m), .int 2])) := by
  unfold halfD at e
  by_cases c : n % 2 = 0
  · rw [if_pos c] at e
    obtain ⟨ea, eb⟩ : n / 2 = a ∧ 1 = b := by
      simp at e
      exact e
    obtain ⟨k, rfl⟩ : ∃ k, n = 2 * k := ⟨n / 2, by omega⟩
    have ek : a = k := by omega
    subst ek
    have pos : 0 ≤ a * m := Int.mul_nonneg (by omega) (by omega)
    refine ⟨pos, .inl ⟨eb.symm, ?_⟩⟩
    unfold halfD
    rw [Int.mul_assoc, if_pos (by omega)]
    rw [show 2 * (a * m) / 2 = a * m by omega]
  · rw [if_neg c] at e
    obtain ⟨ea, eb⟩ : n = a ∧ 2 = b := by
      simp at e
      exact e
    subst ea
    have pos : 0 ≤ n * m := Int.mul_nonneg n0 (by omega)
    refine ⟨pos, .inr ?_⟩
    unfold halfD
    by_cases d : n * m % 2 = 0
    · exact .inl ⟨eb.symm, d, by rw [if_pos d]⟩
    · exact .inr ⟨eb.symm, by omega, by rw [if_neg d]⟩
theorem ok_lfrac {f : Addr} {fd : FuncData} (F : Fun K "_law_fraction" "_law_fraction" s_law_fraction f fd) : FnOk P w K mg base CX0 1 f fd ["part", "times"] spLFrac := by
  refine F.ok sc_law_fraction (fun vs H Q E h => ?_) (fun cdv A outer s H vs Q E hr h => ?_)
  · obtain ⟨p, a, b, n, m, rfl, _⟩ := h
    rfl
  · obtain ⟨p, a, b, n, m, rfl, hp, e, n0, m1, m2, q⟩ := h
    obtain ⟨pos, cs⟩ := half_tms e n0 m1
    have b12 : 1 ≤ b ∧ b ≤ 2 := by
      rcases cs with ⟨z, _⟩ | ⟨z, _⟩ | ⟨z, _⟩ <;> omega
    refine ⟨_, (pss_cons (ps_set (i := 2) sc_law_fraction.nd rfl (.inl rfl) (pe_op op_mul (pe_ix ix_tup (pv 0) pe_int (fun _ _ => rfl)) (pv 1)))
      (pss_cons (ps_set (i := 3) sc_law_fraction.nd rfl (.inl rfl) (pe_ix ix_tup (pv 0) pe_int (fun _ _ => rfl)))
      (pss_cons (ps_set (i := 4) sc_law_fraction.nd rfl (.inl rfl) (pv 2))
      (pss_cons (ps_set (i := 5) sc_law_fraction.nd rfl (.inl rfl) (pv 3))
      (pss_cut (ps_while PassesOwn.never (pt_cmpR op_gt (pv 5) pe_int (nomark _))
        (pss_one (ps_par (i := 4) (j := 5) rfl sc_law_fraction.nd rfl rfl (by decide) rfl rfl (pa_cons (pv 5) (pa_cons (pe_op op_mod (pv 4) (pv 5)) pa_nil)) (by rfl))))
      (pss_one (ps_ret (pe_tup (pa_cons (pe_op op_fdiv (pv 2) (pv 4)) (pa_cons (pe_op op_fdiv (pv 3) (pv 4)) pa_nil)))))))))), ?_⟩
    refine ⟨_, rfl, p, _, 0, _, rfl, rfl, SqT.of hp, atI_nat (j := 0) rfl, _, rfl, _, _, rfl, rfl, .inr ⟨by omega, by omega⟩, ?_⟩
    refine ⟨_, rfl, p, _, 1, _, rfl, rfl, SqT.of hp, atI_nat (j := 1) rfl, _, rfl, _, rfl, ?_⟩
    show _
    refine ⟨fun σ' H' => ∃ one other : Int, σ' = [some (.ref p), some (.int m), some (.int (a * m)), some (.int b), some (.int one), some (.int other)] ∧ Same H H' ∧ ((a * m % b = 0 ∧ one = b) ∨ (b = 2 ∧ a * m % 2 = 1 ∧ one = 1)), ?_, fun σ' H' hM => ?_⟩
    · refine ⟨fun k σ' H' => ∃ one other : Int, σ' = [some (.ref p), some (.int m), some (.int (a * m)), some (.int b), some (.int one), some (.int other)] ∧ Same H H' ∧ ((k = 2 ∧ one = a * m ∧ other = b) ∨ (k = 1 ∧ one = b ∧ other = a * m % b) ∨ (k = 0 ∧ b = 2 ∧ a * m % 2 = 1 ∧ one = 1 ∧ other = 0)), ⟨2, a * m, b, rfl, Same.refl _, .inl ⟨rfl, rfl, rfl⟩⟩, ?_⟩
      rintro k σ2 H2 ⟨one, other, rfl, S2, st⟩
      have bnd : 0 ≤ a * m % b ∧ a * m % b < b := ⟨Int.emod_nonneg _ (by omega), Int.emod_lt_of_pos _ (by omega)⟩
      refine ⟨_, rfl, _, _, rfl, rfl, _, rfl, ?_⟩
      refine ite2 (fun c => ?_) (fun c => ?_)
      · have c : other > 0 := of_decide_eq_true c
        refine ⟨fun σ' H' => ∃ one' other' : Int, σ' = [some (.ref p), some (.int m), some (.int (a * m)), some (.int b), some (.int one'), some (.int other')] ∧ Same H H' ∧ one' = other ∧ other' = one % other, ?_, ?_⟩
        · rintro σ' H' ⟨o1, o2, e', S3, e1, e2⟩
          rcases st with ⟨em, a1, a2⟩ | ⟨em, a1, a2⟩ | ⟨em, _, _, a1, a2⟩
          · exact ⟨1, by omega, o1, o2, e', S3, .inr (.inl ⟨rfl, by omega, by rw [e2, a1, a2]⟩)⟩
          · have b2 : b = 2 := by omega
            have r1 : a * m % b = 1 := by omega
            have r2 : a * m % 2 = 1 := by rw [b2] at r1; exact r1
            exact ⟨0, by omega, o1, o2, e', S3, .inr (.inr ⟨rfl, b2, r2, by omega, by rw [e2, a1, a2, r1, b2]; decide⟩)⟩
          · omega
        · refine ⟨_, rfl, _, rfl, _, rfl, _, _, rfl, rfl, (by show (0 : Int) < other; omega), ?_⟩
          exact ⟨_, _, rfl, other, one % other, rfl, S2, rfl, rfl⟩
      · have c : ¬ other > 0 := fun z => c (decide_eq_true z)
        refine ⟨one, other, rfl, S2, ?_⟩
        rcases st with ⟨em, a1, a2⟩ | ⟨em, a1, a2⟩ | ⟨em, b2, r2, a1, a2⟩
        · omega
        · exact .inl ⟨by omega, a1⟩
        · exact .inr ⟨b2, r2, a1⟩
    · obtain ⟨one, other, rfl, S1, ec⟩ := hM
      have o12 : 1 ≤ one ∧ one ≤ 2 := by
        rcases ec with ⟨_, z⟩ | ⟨_, _, z⟩ <;> omega
      refine ⟨_, rfl, _, rfl, _, _, rfl, rfl, ⟨by omega, by omega⟩, _, rfl, _, rfl, _, _, rfl, rfl, ⟨by omega, by omega⟩, (by show 2 ≤ sizeLine; decide), fun g ng => ?_⟩
      refine q _ _ (same_new S1 ng) ?_
      have fin : halfD (n * m) = .tuple [.int (a * m / one), .int (b / one)] := by
        rcases cs with ⟨b1, h⟩ | ⟨b2, r, h⟩ | ⟨b2, r, h⟩
        · have o1 : one = 1 := by omega
          rw [h, o1, b1, Int.ediv_one]
          rfl
        · have o2 : one = 2 := by
            rcases ec with ⟨_, z⟩ | ⟨_, r', z⟩
            · omega
            · omega
          rw [h, o2, b2]
          rfl
        · have o1 : one = 1 := by
            rcases ec with ⟨r', z⟩ | ⟨_, _, z⟩
            · rw [b2] at r'
              omega
            · exact z
          rw [h, o1, b2, Int.ediv_one]
          rfl
      rw [fin]
      exact .tup upd_same (.cons (.int _) (.cons (.int _) .nil))
end
end Far

namespace Far
open PySem PySem.Spec PyProof.Rows L2
open C8 (pss_cut tCut)
open SX (S)
open LamX
theorem iteF' {A B : Prop} {b : Bool} (e : b = false) (h : B) : if b = true then A else B := by
  rw [e]
  exact iteF h
theorem iteT' {A B : Prop} {b : Bool} (e : b = true) (h : A) : if b = true then A else B := by
  rw [e]
  exact iteT h
/-- two lists of numbers, one behind the other -/
theorem cat_ints {H : Hp} {l1 l2 : Addr} {A B : List Int} {Q : VK} (h1 : H l1 = some (.lst (A.map V.int))) (h2 : H l2 = some (.lst (B.map V.int))) (sz : A.length + B.length ≤ 100000) (k : ∀ p H', Same H H' → H' p = some (.lst ((A ++ B).map V.int)) → Q (.ref p) H') : rCat (.ref l1) (.ref l2) H Q :=
  ⟨l1, l2, _, _, rfl, rfl, h1, h2, by rw [List.length_map, List.length_map]; exact sz_le sz, fun p np => k p _ (same_new (Same.refl _) np) (by rw [upd_same, List.map_append])⟩
theorem ints_of (pl : List Nm) (f : Nm → Int) : (pl.map fun x => V.int (f x)) = (pl.map f).map V.int := by rw [List.map_map]; rfl
/-- what _law_lengths tells: lengths of all sorts, of a tree and another -/
noncomputable def ll1 (pl : List Nm) (ts : List Tie) (x : Nm) : List Int := pl.map (dist ts x) ++ [dist ts (pl.headD []) x, (topOf pl ts).1]
noncomputable def ll2 (pl : List Nm) (ts : List Tie) (x : Nm) : List Int := ll1 pl ts x ++ pl.map (rch pl ts) ++ [midN pl ts, totOf pl ts] ++ pl.map (sumOf pl ts)
noncomputable def ll3 (pl : List Nm) (ts : List Tie) (x : Nm) (s : List Int) (b w : Int) : List Int := ll2 pl ts x ++ dd s ++ [b] ++ [w]
noncomputable def ll4 (pl : List Nm) (ts es : List Tie) : List Int := es.flatMap fun e => [mxA pl ts e, mxB pl ts e]
theorem ll4_len (pl : List Nm) (ts : List Tie) : ∀ es : List Tie, (ll4 pl ts es).length = 2 * es.length
  | [] => rfl
  | e :: r => by
    have ih := ll4_len pl ts r
    unfold ll4 at *
    rw [List.flatMap_cons, List.length_append, ih]
    show 2 + 2 * r.length = 2 * (r.length + 1)
    omega
def ll5 (L : List Tr2) : List Int := L.flatMap fun T => T.2.map (·.2.2)
theorem ll5_len {n : Nat} : ∀ L : List Tr2, (∀ Y ∈ L, Y.2.length ≤ n) → (ll5 L).length ≤ L.length * n
  | [], _ => Nat.zero_le _
  | Y :: r, h => by
    have ih := ll5_len r fun Z hZ => h Z (List.mem_cons_of_mem _ hZ)
    have h1 := h Y List.mem_cons_self
    unfold ll5 at *
    rw [List.flatMap_cons, List.length_append, List.length_map, List.length_cons, Nat.succ_mul]
    omega
inductive Lens (pl : List Nm) (ts : List Tie) (pl' : List Nm) (ts' : List Tie) (k : Int) (x : Nm) : List Int → Prop
  | mk {s : List Int} {b w : Tri} {L : List Tr2} {c : Int} : s.Perm (lensOf pl ts) → s.Pairwise (· ≤ ·) → FL (joinsOf pl pl' ts ts' k pl) (fun z => id z.1) b → FL (joinsOf pl pl' ts ts' k pl) (fun z => -z.1) w → Peel (pl, ts) L →
    ((ts = [] ∧ c = 0) ∨ ∃ z, FLq (allC pl ts ts.length) z ∧ ts ≠ [] ∧ c = z.1) → Lens pl ts pl' ts' k x (ll3 pl ts x s b.1 w.1 ++ ll4 pl ts ts ++ ll5 L ++ [c])
abbrev s_law_lengths : Stmt := topS 62
abbrev N_law_lengths : List Str := ["tree", "others", "length", "place", "found", "pair", "one", "change", "tie"]
theorem sc_law_lengths : FnScope N_law_lengths ["tree", "others", "length", "place"] (defScope s_law_lengths) := ⟨rfl, rfl, rfl, by decide +kernel, rfl, by decide +kernel, by decide +kernel⟩
section
variable {P : Program} {w : World} {K : PySem.W.Frag} {mg : Str → Option Value} {base : Heap} {TL : List (Addr × Str)}
def spLL (TL : List (Addr × Str)) : Sp := fun vs H Q _ => ∃ (v v' : V) (pl pl' : List Nm) (ts ts' : List Tie) (k : Int) (x : Nm), vs = [v, v', .int k, .str (S x)] ∧ Dt H v (treeD pl ts) ∧ Dt H v' (treeD pl' ts') ∧ Fine pl ts ∧ Fine pl' ts' ∧ (∀ y ∈ pl, y ∉ pl') ∧ x ∈ pl ∧ pl.length ≤ 40 ∧ pl'.length ≤ 40 ∧ Tabs TL H ∧
  ∀ (H' : Hp) (r : Addr) (ls : List Int), ExtN H H' → Tabs TL H' → H' r = some (.lst (ls.map V.int)) → Lens pl ts pl' ts' k x ls → ls.length ≤ 60000 → Q (.ref r) H'
theorem ok_ll {f : Addr} {fd : FuncData} (F : Fun K "_law_lengths" "_law_lengths" s_law_lengths f fd) (T : Txt35 mg) (Clengths_from : Cal P w K mg base 3 "lengths_from" spLens) (Clength_between : Cal P w K mg base 3 "length_between" spLen) (Cfarthest : Cal P w K mg base 5 "farthest" spFarthest) (Cfarthest_of_each : Cal P w K mg base 4 "farthest_of_each" spFoe) (Cmiddles : Cal P w K mg base 5 "middles" spMid) (Ctotal_of : Cal P w K mg base 5 "total_of" spTotal) (Csums_from : Cal P w K mg base 4 "sums_from" spSums) (Cpairs_by_length : Cal P w K mg base 5 "pairs_by_length" spByLen) (Cbest_join : Cal P w K mg base 6 "best_join" (spBest TL id)) (Cworst_join : Cal P w K mg base 6 "worst_join" (spBest TL fun i => -i)) (Cparts_without : Cal P w K mg base 5 "parts_without" spPartsW) (Cpeeled : Cal P w K mg base 3 "peeled" spPeeled) (Cbest_change : Cal P w K mg base 5 "best_change" (spBC TL)) : FnOk P w K mg base CX0 7 f fd ["tree", "others", "length", "place"] (spLL TL) := by
  refine F.ok sc_law_lengths (fun vs H Q E h => ?_) (fun cdv A outer s H vs Q E hr h => ?_)
  · obtain ⟨v, v', pl, pl', ts, ts', k, x, rfl, _⟩ := h
    rfl
  · obtain ⟨v, v', pl, pl', ts, ts', k, x, rfl, hd, hd', fine, fine', dis, mx, l40, l40', hT, q⟩ := h
    obtain ⟨t, a, b, vs, rfl, ht, ha, hb, hA⟩ := dt_tree hd
    have tl := fine.tree.len
    obtain ⟨h0, r0, e0⟩ : ∃ x r, pl = x :: r := by
      cases hp : pl with
      | nil => exact absurd hp fine.ne
      | cons x r => exact ⟨x, r, rfl⟩
    have f0 : ((pl.map S).map V.str)[0]? = some (.str (S h0)) := by rw [e0]; rfl
    have mh : h0 ∈ pl := by rw [e0]; exact List.mem_cons_self
    have ehd : pl.headD [] = h0 := by rw [e0]; rfl
    refine ⟨_, (pss_cons (ps_set (i := 4) sc_law_lengths.nd rfl (.inl rfl) (pe_op op_cat (pe_callTy call_list_of (by rfl) T.list bt_list (pa_cons (pe_c Clengths_from hr (by decide) rfl (pa_cons (pv 0) (pa_cons (pv 3) pa_nil))) pa_nil)) (pe_lst (pa_cons (pe_c Clength_between hr (by decide) rfl (pa_cons (pv 0) (pa_cons (pe_ix ix_tup (pe_ix ix_tup (pv 0) pe_int (fun _ _ => rfl)) pe_int (fun _ _ => rfl)) (pa_cons (pv 3) pa_nil)))) (pa_cons (pe_ix ix_tup (pe_c Cfarthest hr (by decide) rfl (pa_cons (pv 0) pa_nil)) pe_int (fun _ _ => rfl)) pa_nil)))))
      (pss_cons (ps_set (i := 4) sc_law_lengths.nd rfl (.inl rfl) (pe_op op_cat (pe_op op_cat (pe_op op_cat (pv 4) (pe_callTy call_list_of (by rfl) T.list bt_list (pa_cons (pe_c Cfarthest_of_each hr (by decide) rfl (pa_cons (pv 0) pa_nil)) pa_nil))) (pe_lst (pa_cons (pe_ix ix_tup (pe_c Cmiddles hr (by decide) rfl (pa_cons (pv 0) pa_nil)) pe_int (fun _ _ => rfl)) (pa_cons (pe_c Ctotal_of hr (by decide) rfl (pa_cons (pv 0) pa_nil)) pa_nil)))) (pe_callTy call_list_of (by rfl) T.list bt_list (pa_cons (pe_c Csums_from hr (by decide) rfl (pa_cons (pv 0) pa_nil)) pa_nil))))
      (pss_cons (ps_set (i := 4) sc_law_lengths.nd rfl (.inl rfl) (pe_op op_cat (pe_op op_cat (pv 4) (pe_callTy (call_listD rfl) (by rfl) T.list bt_list (pa_cons (pe_c Cpairs_by_length hr (by decide) rfl (pa_cons (pv 0) pa_nil)) pa_nil))) (pe_lst (pa_cons (pe_ix ix_tup (pe_c Cbest_join hr (by decide) rfl (pa_cons (pv 0) (pa_cons (pv 1) (pa_cons (pv 2) pa_nil)))) pe_int (fun _ _ => rfl)) pa_nil))))
      (pss_cons (ps_set (i := 4) sc_law_lengths.nd rfl (.inl rfl) (pe_op op_cat (pv 4) (pe_lst (pa_cons (pe_ix ix_tup (pe_c Cworst_join hr (by decide) rfl (pa_cons (pv 0) (pa_cons (pv 1) (pa_cons (pv 2) pa_nil)))) pe_int (fun _ _ => rfl)) pa_nil))))
      (pss_cut (ps_for PassesOwn.never rfl (pi_tup (pe_c Cparts_without hr (by decide) rfl (pa_cons (pv 0) pa_nil))) (pg_name (i := 5) sc_law_lengths.nd rfl (.inl rfl))
        (pss_one (ps_set (i := 4) sc_law_lengths.nd rfl (.inl rfl) (pe_op op_cat (pv 4) (pe_callTy call_list_of (by rfl) T.list bt_list (pa_cons (pv 5) pa_nil))))))
      (pss_cut (ps_for PassesOwn.never rfl (pi_list (pe_c Cpeeled hr (by decide) rfl (pa_cons (pv 0) pa_nil))) (pg_name (i := 6) sc_law_lengths.nd rfl (.inl rfl))
        (pss_one (ps_set (i := 4) sc_law_lengths.nd rfl (.inl rfl) (pe_op op_cat (pv 4) (pe_lc (own := [("tie", 8)]) (g := gName 8) (tt := tYes) rfl sc_law_lengths.nd (pi_tup (pe_ix ix_tup (pv 6) pe_int (fun _ _ => rfl))) (blkOk_by (N := N_law_lengths) (sc := defScope s_law_lengths) (by decide +kernel)) (fun _ _ _ _ _ => pg_name (i := 8) sc_law_lengths.nd rfl (Or.inl rfl)) (fun _ _ _ _ _ => pts_nil) (fun _ _ _ _ _ => (pe_ix (ixt (K := K)) (pv 8) pe_int (fun _ _ => rfl))))))))
      (pss_cons (ps_set (i := 7) sc_law_lengths.nd rfl (.inl rfl) (pe_c Cbest_change hr (by decide) rfl (pa_cons (pv 0) pa_nil)))
      (pss_one (ps_ret (pe_op op_cat (pv 4) (pe_lst (pa_cons (pe_ifExp (pt_cmpR op_isN (pv 7) pe_non (nomark _)) pe_int (pe_ix ix_tup (pv 7) pe_int (fun _ _ => rfl))) pa_nil)))))))))))), ?_⟩
    -- found = list(lengths_from) + [between, far]
    refine ⟨_, rfl, _, rfl, .ref t, pl, ts, x, rfl, hd, fine, mx, fun H1 q1 S1 nq1 hq1 => ⟨q1, _, rfl, .inr (SqT.of hq1), fun l1 nl1 => ?_⟩⟩
    rw [ints_of]
    have X1 := same_new (o := .lst ((pl.map (dist ts x)).map V.int)) S1 nl1
    have h1 : (upd H1 l1 (.lst ((pl.map (dist ts x)).map V.int))) l1 = some (.lst ((pl.map (dist ts x)).map V.int)) := upd_same
    generalize upd H1 l1 (.lst ((pl.map (dist ts x)).map V.int)) = H2 at X1 h1
    refine ⟨_, rfl, _, rfl, t, _, 0, .ref a, rfl, rfl, SqT.of (X1 _ _ ht), atI_nat (j := 0) rfl, a, _, 0, .str (S h0), rfl, rfl, (ha.same X1).sq, atI_nat (j := 0) f0, _, rfl, .ref t, pl, ts, h0, x, rfl, Dt.keep (TK.of X1) hd, fine, mh, mx, fun H3 S3 => ?_⟩
    refine ⟨_, rfl, .ref t, pl, ts, rfl, Dt.keep (TK.of (X1.trans S3)) hd, fine, fun H4 r4 S4 h4 => ?_⟩
    rw [(farD_top fine).1] at h4
    obtain ⟨f6, rfl, hf6⟩ := dt_tri h4
    have hf6 : H4 f6 = some (.tup [.int (topOf pl ts).1, .str (S (topOf pl ts).2.1), .str (S (topOf pl ts).2.2)]) := hf6
    refine ⟨f6, _, 0, _, rfl, rfl, SqT.of hf6, atI_nat (j := 0) rfl, (by show 2 ≤ sizeLine; decide), fun l2 nl2 => ?_⟩
    have X2 := same_new (o := .lst [.int (dist ts h0 x), .int (topOf pl ts).1]) (S3.trans S4) nl2
    refine cat_ints (A := pl.map (dist ts x)) (B := [dist ts h0 x, (topOf pl ts).1]) (X2 _ _ h1) upd_same (by rw [List.length_map]; show _ + 2 ≤ _; omega) fun l3 H5 S5 h5 => ?_
    have X5 := X1.trans (X2.trans S5)
    have h5 : H5 l3 = some (.lst ((ll1 pl ts x).map V.int)) := by
      unfold ll1
      rw [ehd]
      exact h5
    have len1 : (ll1 pl ts x).length = pl.length + 2 := by unfold ll1; rw [List.length_append, List.length_map]; rfl
    clear X2 X1 S5 S4 S3 S1 hf6 h4 h1 hq1 nl1 nq1 nl2
    -- the reaches
    refine ⟨_, rfl, _, rfl, .ref t, pl, ts, rfl, Dt.keep (TK.of X5) hd, fine, fun H6 L6 S6 nL6 hL6 => ⟨L6, _, rfl, .inr (SqT.of hL6), fun l6 nl6 => ?_⟩⟩
    have Y6 := same_new (o := .lst ((pl.map (rch pl ts)).map V.int)) S6 nl6
    refine cat_ints (A := ll1 pl ts x) (B := pl.map (rch pl ts)) (Y6 _ _ h5) upd_same (by rw [len1, List.length_map]; omega) fun l7 H7 S7 h7 => ?_
    have X7 := X5.trans (Y6.trans S7)
    clear Y6 S7 S6 nL6 hL6 nl6 h5 X5
    -- the least reach, the total
    refine ⟨_, rfl, .ref t, pl, ts, rfl, Dt.keep (TK.of X7) hd, fine, fun H8 r8 S8 h8 => ?_⟩
    obtain ⟨m8, xs8, rfl, hm8, hx8⟩ := dt_tup h8 fun _ => ⟨_, List.mem_cons_self, fun l z => by cases z⟩
    cases hx8 with
    | cons i1 hx8 =>
    cases i1
    cases hx8 with
    | cons i2 hx8 =>
    cases hx8
    refine ⟨m8, _, 0, _, rfl, rfl, SqT.of hm8, atI_nat (j := 0) rfl, ?_⟩
    refine ⟨_, rfl, .ref t, pl, ts, rfl, Dt.keep (TK.of (X7.trans S8)) hd, fine, fun H9 S9 => ⟨(by show 2 ≤ sizeLine; decide), fun l9 nl9 => ?_⟩⟩
    have Y9 := same_new (o := .lst [.int (midN pl ts), .int (totOf pl ts)]) (S8.trans S9) nl9
    refine cat_ints (A := ll1 pl ts x ++ pl.map (rch pl ts)) (B := [midN pl ts, totOf pl ts]) (Y9 _ _ h7) upd_same (by rw [List.length_append, len1, List.length_map]; show _ + 2 ≤ _; omega) fun lA HA SA hA1 => ?_
    have XA := X7.trans (Y9.trans SA)
    clear Y9 SA S9 S8 h8 hm8 i2 nl9 h7 X7
    -- the sums
    refine ⟨_, rfl, .ref t, pl, ts, rfl, Dt.keep (TK.of XA) hd, fine, fun HB LB SB nLB hLB => ⟨LB, _, rfl, .inr (SqT.of hLB), fun lb nlb => ?_⟩⟩
    have YB := same_new (o := .lst ((pl.map (sumOf pl ts)).map V.int)) SB nlb
    refine cat_ints (A := ll1 pl ts x ++ pl.map (rch pl ts) ++ [midN pl ts, totOf pl ts]) (B := pl.map (sumOf pl ts)) (YB _ _ hA1) upd_same (by rw [List.length_append, List.length_append, len1, List.length_map, List.length_map]; show _ + 2 + _ ≤ _; omega) fun lC HC SC hC => ?_
    have XC := XA.trans (YB.trans SC)
    have hC : HC lC = some (.lst ((ll2 pl ts x).map V.int)) := hC
    have len2 : (ll2 pl ts x).length = 3 * pl.length + 4 := by
      unfold ll2
      rw [List.length_append, List.length_append, List.length_append, len1, List.length_map, List.length_map]
      show _ + 2 + _ = _
      omega
    clear YB SC SB nLB hLB nlb hA1 XA
    -- the lengths that pairs have
    refine ⟨_, rfl, _, rfl, .ref t, pl, ts, rfl, Dt.keep (TK.of XC) hd, fine, fun HD D s SD nD perm rise hD => ⟨D, _, rfl, .inl hD, fun ld nld => ?_⟩⟩
    have ek : ((ikm (dd s) (cntF s)).map fun kv => kV kv.1) = (dd s).map V.int := by
      unfold ikm
      rw [List.map_map]
      rfl
    rw [ek]
    have dl : (dd s).length ≤ 1600 := by
      have h1 := dd_len s
      have h2 := perm.length_eq
      have h3 := prs_len pl ts pl.length
      have h4 : pl.length * pl.length ≤ 40 * 40 := Nat.mul_le_mul l40 l40
      unfold lensOf pairsOf at h2
      rw [List.length_map] at h2
      omega
    have YD := same_new (o := .lst ((dd s).map V.int)) SD nld
    refine cat_ints (A := ll2 pl ts x) (B := dd s) (YD _ _ hC) upd_same (by omega) fun lE HE SE hE => ?_
    have XE := XC.trans (YD.trans SE)
    clear YD SE SD nD hD nld hC XC ek
    -- the best join
    refine ⟨_, rfl, _, rfl, _, rfl, .ref t, v', pl, pl', ts, ts', k, rfl, Dt.keep (TK.of XE) hd, Dt.keep (TK.of XE) hd', fine.ok, l40, l40', hT.ext XE, dis, fine, fine', fun HF rF bj eF TF flB hF => ?_⟩
    obtain ⟨fF, rfl, hfF⟩ := dt_tri hF
    refine ⟨fF, _, 0, _, rfl, rfl, SqT.of hfF, atI_nat (j := 0) rfl, (by show 1 ≤ sizeLine; decide), fun lg nlg => ?_⟩
    have YF := same_new (o := .lst [.int bj.1]) (Same.refl HF) nlg
    refine cat_ints (A := ll2 pl ts x ++ dd s) (B := [bj.1]) (YF _ _ (eF _ _ hE (fun ps z => by cases z))) upd_same (by rw [List.length_append]; show _ + 1 ≤ _; omega) fun lG HG SG hG => ?_
    have XG : ExtN H HG := fun c o h n => (YF.trans SG) c o (eF c o (XE c o h) n)
    have TG := TF.ext (YF.trans SG)
    clear YF SG hF hfF nlg hE XE eF TF
    -- the worst join
    refine ⟨_, rfl, _, rfl, _, rfl, _, rfl, .ref t, v', pl, pl', ts, ts', k, rfl, Dt.keep (TK.ofN XG) hd, Dt.keep (TK.ofN XG) hd', fine.ok, l40, l40', TG, dis, fine, fine', fun HI rI wj eI TI flW hI => ?_⟩
    obtain ⟨fI, rfl, hfI⟩ := dt_tri hI
    refine ⟨fI, _, 0, _, rfl, rfl, SqT.of hfI, atI_nat (j := 0) rfl, (by show 1 ≤ sizeLine; decide), fun lj nlj => ?_⟩
    have YI := same_new (o := .lst [.int wj.1]) (Same.refl HI) nlj
    refine cat_ints (A := ll2 pl ts x ++ dd s ++ [bj.1]) (B := [wj.1]) (YI _ _ (eI _ _ hG (fun ps z => by cases z))) upd_same (by rw [List.length_append, List.length_append]; show _ + 1 + 1 ≤ _; omega) fun lJ HJ SJ hJ => ?_
    have XJ : ExtN H HJ := fun c o h n => (YI.trans SJ) c o (eI c o (XG c o h n) n)
    have TJ := TI.ext (YI.trans SJ)
    have hJ : HJ lJ = some (.lst ((ll3 pl ts x s bj.1 wj.1).map V.int)) := hJ
    have len3 : (ll3 pl ts x s bj.1 wj.1).length ≤ 2000 := by
      unfold ll3
      rw [List.length_append, List.length_append, List.length_append, len2]
      show _ + 1 + 1 ≤ _
      omega
    clear YI SJ hI hfI nlj hG XG eI TI TG
    -- the parts without each tie
    refine ⟨fun σ' H' => ∃ (x5 : Option V) (f : Addr), σ' = [some (.ref t), some v', some (.int k), some (.str (S x)), some (.ref f), x5, none, none, none] ∧ Same HJ H' ∧ H' f = some (.lst ((ll3 pl ts x s bj.1 wj.1 ++ ll4 pl ts ts).map V.int)), ?_, fun σ' HK hM => ?_⟩
    · refine ⟨_, rfl, .ref t, pl, ts, rfl, Dt.keep (TK.ofN XJ) hd, fine, fun HL g ws SL hg hW => ?_⟩
      have wl := DtAll.len hW
      rw [List.length_map] at wl
      refine ⟨g, rfl, ⟨_, SqT.of hg⟩, for_tup (K := K) (a := g) (xs := ws) (fun i σ' H' => ∃ (x5 : Option V) (f : Addr), σ' = [some (.ref t), some v', some (.int k), some (.str (S x)), some (.ref f), x5, none, none, none] ∧ Same HL H' ∧ H' f = some (.lst ((ll3 pl ts x s bj.1 wj.1 ++ ll4 pl ts (ts.take i)).map V.int))) ⟨none, lJ, rfl, Same.refl _, ?_⟩ (fun i σ' H' _ hP => ?_) (fun i v2 σ' H' hi hP => ?_) (fun σ' H' hP => ?_)⟩
      · rw [List.take_zero]
        show HL lJ = some (.lst ((ll3 pl ts x s bj.1 wj.1 ++ []).map V.int))
        rw [List.append_nil]
        exact SL _ _ hJ
      · obtain ⟨_, _, _, SM, _⟩ := hP
        exact SqT.of (SM _ _ hg)
      · obtain ⟨x5, f, rfl, SM, hf⟩ := hP
        obtain ⟨d, hd2, hx⟩ := DtAll.get hW hi
        rw [List.getElem?_map] at hd2
        cases ee : ts[i]? with
        | none => rw [ee] at hd2; cases hd2
        | some e =>
          rw [ee] at hd2
          have ed : d = prtD pl ts e := (Option.some.inj hd2).symm
          subst ed
          have il := (List.getElem?_eq_some_iff.mp ee).1
          obtain ⟨o, xs, rfl, ho, hxs⟩ := dt_tup (Dt.keep (TK.of SM) hx) fun _ => ⟨_, List.mem_cons_self, fun l z => by cases z⟩
          cases hxs with
          | cons i1 hxs =>
          cases i1
          cases hxs with
          | cons i2 hxs =>
          cases i2
          cases hxs
          refine ⟨_, rfl, _, rfl, o, _, rfl, .inr (SqT.of ho), fun l nl => ?_⟩
          have Y := same_new (o := .lst [.int (mxA pl ts e), .int (mxB pl ts e)]) (Same.refl H') nl
          refine cat_ints (A := ll3 pl ts x s bj.1 wj.1 ++ ll4 pl ts (ts.take i)) (B := [mxA pl ts e, mxB pl ts e]) (Y _ _ hf) upd_same (by rw [List.length_append, ll4_len, List.length_take]; show _ + 2 ≤ _; omega) fun l2 H2 S2 h2 => ?_
          refine ⟨_, l2, rfl, SM.trans (Y.trans S2), ?_⟩
          rw [h2, List.take_add_one, ee]
          unfold ll4
          rw [List.flatMap_append, List.append_assoc]
          rfl
      · obtain ⟨x5, f, rfl, SM, hf⟩ := hP
        rw [List.take_of_length_le (by omega)] at hf
        exact ⟨_, f, rfl, SL.trans SM, hf⟩
    · obtain ⟨x5, f, rfl, SK, hf⟩ := hM
      have XK : ExtN H HK := fun c o h n => SK c o (XJ c o h n)
      have TK' := TJ.ext SK
      clear hJ
      have len4 := ll4_len pl ts ts
      -- leaves taken off
      refine ⟨fun σ' H' => ∃ (x5 x6 : Option V) (f : Addr) (L : List Tr2), σ' = [some (.ref t), some v', some (.int k), some (.str (S x)), some (.ref f), x5, x6, none, none] ∧ Same HK H' ∧ H' f = some (.lst ((ll3 pl ts x s bj.1 wj.1 ++ ll4 pl ts ts ++ ll5 L).map V.int)) ∧ Peel (pl, ts) L ∧ (ll5 L).length ≤ 50000, ?_, fun σ' HM hM => ?_⟩
      · refine ⟨_, rfl, .ref t, pl, ts, rfl, Dt.keep (TK.ofN XK) hd, fine.tree, by omega, fun HL g us L SL ng hg hU pe l1000 sub => ?_⟩
        have ul := DtAll.len hU
        rw [List.length_map] at ul
        have ylen : ∀ Y ∈ L, Y.2.length ≤ 40 := fun Y hY => by
          obtain ⟨it, sb⟩ := sub Y hY
          have h1 := it.len
          have h2 := nodup_sub_len Y.1 pl it.nodup sb
          omega
        have l5 : ∀ i, (ll5 (L.take i)).length ≤ 40000 := fun i => by
          have := ll5_len (L.take i) fun Y hY => ylen Y (List.mem_of_mem_take hY)
          rw [List.length_take] at this
          have : min i L.length * 40 ≤ 1000 * 40 := Nat.mul_le_mul_right _ (by omega)
          omega
        refine ⟨g, rfl, ⟨_, SqL.of hg⟩, for_list (K := K) (a := g) (xs := us) (fun i σ' H' => ∃ (x6 : Option V) (f : Addr), σ' = [some (.ref t), some v', some (.int k), some (.str (S x)), some (.ref f), x5, x6, none, none] ∧ Same HL H' ∧ H' f = some (.lst ((ll3 pl ts x s bj.1 wj.1 ++ ll4 pl ts ts ++ ll5 (L.take i)).map V.int))) ⟨none, f, rfl, Same.refl _, ?_⟩ (fun i σ' H' _ hP => ?_) (fun i v2 σ' H' hi hP => ?_) (fun σ' H' hP => ?_)⟩
        · rw [List.take_zero]
          show HL f = some (.lst ((ll3 pl ts x s bj.1 wj.1 ++ ll4 pl ts ts ++ []).map V.int))
          rw [List.append_nil]
          exact SL _ _ hf
        · obtain ⟨_, _, _, SM, _⟩ := hP
          exact SqL.of (SM _ _ hg)
        · obtain ⟨x6, f, rfl, SM, hf⟩ := hP
          obtain ⟨d, hd2, hx⟩ := DtAll.get hU hi
          rw [List.getElem?_map] at hd2
          cases ee : L[i]? with
          | none => rw [ee] at hd2; cases hd2
          | some Y =>
            rw [ee] at hd2
            have ed : d = treeP Y := (Option.some.inj hd2).symm
            subst ed
            have yl := ylen Y (List.mem_of_getElem? ee)
            obtain ⟨o, oa, ob, ovs, rfl, ho, hoa, hob, hoA⟩ := dt_tree (Dt.keep (TK.of SM) hx)
            have ovl : ovs.length = Y.2.length := by
              have := DtAll.len hoA
              rwa [List.length_map] at this
            refine ⟨_, rfl, _, rfl, o, _, 1, .ref ob, rfl, rfl, SqT.of ho, atI_nat (j := 1) rfl, ob, rfl, ⟨_, SqT.of hob⟩, fun D nD => ?_⟩
            refine lc_tup (K := K) (a := ob) (xs := ovs) (fun j H2 => Same H' H2 ∧ H2 D = some (.lst (((Y.2.take j).map (·.2.2)).map V.int))) ⟨same_new (Same.refl _) nD, upd_same⟩ (fun j H2 _ hP => SqT.of (hP.1 _ _ hob)) (fun j v3 H2 hj hP => ?_) (fun H2 hP => ?_)
            · obtain ⟨S2, hD⟩ := hP
              obtain ⟨t3, p3, ht3, rfl, hp3⟩ := tie_at (DtAll.keep (TK.of S2) hoA) hj
              have jl := (List.getElem?_eq_some_iff.mp ht3).1
              refine ⟨rfl, _, rfl, p3, _, 2, _, rfl, rfl, SqT.of hp3, atI_nat (j := 2) rfl, _, hD, by rw [List.length_map, List.length_map, List.length_take]; exact sz_lt (by omega), same_put S2 nD, ?_⟩
              rw [upd_same, List.take_add_one, ht3, List.map_append, List.map_append]
              rfl
            · obtain ⟨S2, hD⟩ := hP
              rw [List.take_of_length_le (by omega)] at hD
              refine cat_ints (A := ll3 pl ts x s bj.1 wj.1 ++ ll4 pl ts ts ++ ll5 (L.take i)) (B := Y.2.map (·.2.2)) (S2 _ _ hf) hD (by rw [List.length_append, List.length_append, len4, List.length_map]; have := l5 i; omega) fun l2 H3 S3 h3 => ?_
              refine ⟨_, l2, rfl, SM.trans (S2.trans S3), ?_⟩
              have e5 : ll5 (L.take (i + 1)) = ll5 (L.take i) ++ Y.2.map (·.2.2) := by
                unfold ll5
                rw [List.take_add_one, ee, List.flatMap_append]
                simp
              rw [h3, e5, ← List.append_assoc]
        · obtain ⟨x6, f, rfl, SM, hf⟩ := hP
          rw [List.take_of_length_le (by omega)] at hf
          have := l5 L.length
          rw [List.take_length] at this
          exact ⟨_, _, f, L, rfl, SL.trans SM, hf, pe, by omega⟩
      · obtain ⟨x5, x6, f, L, rfl, SM, hf, pe, l5⟩ := hM
        have XM : ExtN H HM := fun c o h n => SM c o (XK c o h n)
        have TM := TK'.ext SM
        refine ⟨_, rfl, .ref t, pl, ts, rfl, Dt.keep (TK.ofN XM) hd, fine, l40, TM, fun tz HN eN TN => ?_, fun HN rN z eN TN flz hN => ?_⟩
        · have hfN := eN _ _ hf (fun ps z => by cases z)
          refine ⟨_, rfl, _, rfl, rfl, _, rfl, iteT ⟨(by show 1 ≤ sizeLine; decide), fun l nl => ?_⟩⟩
          have Y := same_new (o := .lst [.int 0]) (Same.refl HN) nl
          refine cat_ints (A := ll3 pl ts x s bj.1 wj.1 ++ ll4 pl ts ts ++ ll5 L) (B := [0]) (Y _ _ hfN) upd_same (by rw [List.length_append, List.length_append, len4]; show _ + 1 ≤ _; omega) fun l2 HO SO hO => ?_
          exact q HO l2 _ (fun c o h n => (Y.trans SO) c o (eN c o (XM c o h n) n)) (TN.ext (Y.trans SO)) hO (.mk perm rise flB flW pe (.inl ⟨tz, rfl⟩)) (by rw [List.length_append, List.length_append, List.length_append, len4]; show _ + 1 ≤ _; omega)
        · obtain ⟨fz, rfl, hfz⟩ := dt_qua hN
          have hfN := eN _ _ hf (fun ps z => by cases z)
          have tne : ts ≠ [] := fun tz => by
            obtain ⟨i, e, _⟩ := flz
            rw [tz] at e
            cases e
          refine ⟨_, rfl, _, rfl, rfl, _, rfl, iteF' (by simp) ⟨_, rfl, fz, _, 0, _, rfl, rfl, SqT.of hfz, atI_nat (j := 0) rfl, (by show 1 ≤ sizeLine; decide), fun l nl => ?_⟩⟩
          have Y := same_new (o := .lst [.int z.1]) (Same.refl HN) nl
          refine cat_ints (A := ll3 pl ts x s bj.1 wj.1 ++ ll4 pl ts ts ++ ll5 L) (B := [z.1]) (Y _ _ hfN) upd_same (by rw [List.length_append, List.length_append, len4]; show _ + 1 ≤ _; omega) fun l2 HO SO hO => ?_
          exact q HO l2 _ (fun c o h n => (Y.trans SO) c o (eN c o (XM c o h n) n)) (TN.ext (Y.trans SO)) hO (.mk perm rise flB flW pe (.inr ⟨z, flz, tne, rfl⟩)) (by rw [List.length_append, List.length_append, List.length_append, len4]; show _ + 1 ≤ _; omega)
end
end Far

namespace Far
open PySem PySem.Spec PyProof.Rows L2
open SX (S)
/-! ### the lengths of all sorts, so many times as long -/
theorem dd_tms {m : Int} (m1 : 1 ≤ m) : ∀ r : List Int, dd ((r.reverse).map fun x => x * m) = (dd r.reverse).map fun x => x * m
  | [] => rfl
  | x :: r => by
    have ih := dd_tms m1 r
    rw [List.reverse_cons, List.map_append]
    show dd (r.reverse.map (fun x => x * m) ++ [x * m]) = _
    rw [dd_snoc, dd_snoc, ih]
    have e : x * m ∈ (dd r.reverse).map (fun x => x * m) ↔ x ∈ dd r.reverse := ⟨fun h => by
      obtain ⟨y, hy, e⟩ := List.mem_map.mp h
      rw [← (eq_tms m1).mp e]
      exact hy, fun h => List.mem_map.mpr ⟨x, h, rfl⟩⟩
    by_cases c : x ∈ dd r.reverse
    · rw [if_pos c, if_pos (e.mpr c)]
    · rw [if_neg c, if_neg fun q => c (e.mp q), List.map_append]
      rfl
theorem dd_mul {m : Int} (m1 : 1 ≤ m) (s : List Int) : dd (s.map fun x => x * m) = (dd s).map fun x => x * m := by
  have := dd_tms m1 s.reverse
  rwa [List.reverse_reverse] at this
theorem ll5_tms {m : Int} : ∀ L : List Tr2, ll5 (L.map (sclT m)) = (ll5 L).map fun x => x * m
  | [] => rfl
  | Y :: r => by
    have ih := ll5_tms (m := m) r
    unfold ll5 at *
    rw [List.map_cons, List.flatMap_cons, List.flatMap_cons, ih, List.map_append]
    refine congrArg (· ++ _) ?_
    show ((Y.2.map (scl m)).map (·.2.2)) = _
    rw [List.map_map, List.map_map]
    rfl
section
variable {pl pl' : List Nm} {ts ts' : List Tie} {m k : Int} {x : Nm}
theorem Scl.ll4 (z : Scl m pl ts) : ∀ n : Nat, n ≤ ts.length → Far.ll4 pl (ts.map (scl m)) ((ts.take n).map (scl m)) = (Far.ll4 pl ts (ts.take n)).map fun x => x * m
  | 0, _ => rfl
  | n + 1, hn => by
    have ih := z.ll4 n (by omega)
    obtain ⟨e, he⟩ : ∃ e, ts[n]? = some e := ⟨ts[n]'(by omega), List.getElem?_eq_getElem (by omega)⟩
    have et : ts.take (n + 1) = ts.take n ++ [e] := by rw [List.take_add_one, he]; rfl
    obtain ⟨a, b⟩ := z.prt he
    have sn : ∀ (ps qs es : List Tie), Far.ll4 pl ps (qs ++ es) = Far.ll4 pl ps qs ++ Far.ll4 pl ps es := fun ps qs es => by
      unfold Far.ll4
      rw [List.flatMap_append]
    rw [et, List.map_append, sn, sn, ih, List.map_append]
    have one : Far.ll4 pl (ts.map (scl m)) ([e].map (scl m)) = (Far.ll4 pl ts [e]).map fun x => x * m := by
      show [mxA pl (ts.map (scl m)) (scl m e), mxB pl (ts.map (scl m)) (scl m e)] ++ [] = [mxA pl ts e * m, mxB pl ts e * m]
      rw [a, b]
      rfl
    rw [one]
theorem Lens.tms (z : Scl m pl ts) (z' : Scl m pl' ts') (hx : x ∈ pl) {ls ls' : List Int} (h : Lens pl ts pl' ts' k x ls) (h' : Lens pl (ts.map (scl m)) pl' (ts'.map (scl m)) (k * m) x ls') : ls' = ls.map fun y => y * m := by
  obtain ⟨p, up, fb, fw, pe, ch⟩ := h
  obtain ⟨p2, up2, fb2, fw2, pe2, ch2⟩ := h'
  rename_i s b w L c s2 b2 w2 L2 c2
  have m1 := z.m1
  have js := z.joins z' k pl fun y hy => hy
  rw [js] at fb2 fw2
  have eb : b2 = Far.tms m b := fb2.uni (fb.tms (g := id) fun a b => le_tms m1)
  have ew : w2 = Far.tms m w := fw2.uni (fw.tms (g := fun i => -i) fun a b => by
    show -(a * m) ≤ -(b * m) ↔ -a ≤ -b
    rw [Int.neg_le_neg_iff, Int.neg_le_neg_iff]
    exact le_tms m1)
  have eL : L2 = L.map (sclT m) := pe2.det pe.scl
  have es : s2 = s.map fun y => y * m := by
    refine sorted_one (p2.trans ?_) up2 ?_
    · rw [z.lens]
      exact (p.map _).symm
    · exact List.pairwise_map.mpr (up.imp fun {a b} q => (le_tms m1).mpr q)
  have ec : c2 = c * m := by
    rcases ch with ⟨t0, c0⟩ | ⟨q, fq, tn, c0⟩
    · rcases ch2 with ⟨_, c1⟩ | ⟨q2, _, tn2, _⟩
      · rw [c0, c1, Int.zero_mul]
      · rw [t0] at tn2
        exact absurd rfl tn2
    · rcases ch2 with ⟨t1, _⟩ | ⟨q2, fq2, _, c1⟩
      · exact absurd (List.map_eq_nil_iff.mp t1) tn
      · rw [List.length_map, z.allC _ (Nat.le_refl _)] at fq2
        rw [c0, c1, fq2.uni (fq.tms m1)]
        rfl
  have hm : pl.headD [] ∈ pl := by
    cases hp : pl with
    | nil => exact absurd hp z.F.ne
    | cons a r => exact List.mem_cons_self
  have e1 : ll1 pl (ts.map (scl m)) x = (ll1 pl ts x).map fun y => y * m := by
    unfold ll1
    rw [List.map_append, List.map_map, List.map_congr_left fun y hy => (z.way hx hy).2, (z.way hm hx).2, z.top]
    rfl
  have e2 : ll2 pl (ts.map (scl m)) x = (ll2 pl ts x).map fun y => y * m := by
    unfold ll2
    rw [e1, z.rchs, z.midN, z.tot, z.sums, List.map_append, List.map_append, List.map_append]
    rfl
  have e4 := z.ll4 ts.length (Nat.le_refl _)
  rw [List.take_length] at e4
  unfold ll3
  rw [e2, e4, es, dd_mul m1, eb, ew, eL, ll5_tms, ec]
  simp only [List.map_append]
  rfl
end
end Far

namespace Far
open PySem PySem.Spec PyProof.Rows L2
open C8 (pss_cut tCut)
open SX (S)
theorem ties_lay : ∀ {ts : List Tie}, (∀ e ∈ ts, NameOk e.1 ∧ NameOk e.2.1) → PyData.canLayAll0 (ts.map tieD) = true ∧ PyData.depthAll (ts.map tieD) ≤ 1
  | [], _ => ⟨rfl, Nat.zero_le _⟩
  | e :: r, h => by
    obtain ⟨h1, h2⟩ := ties_lay fun x hx => h x (List.mem_cons.mpr (.inr hx))
    obtain ⟨a, b⟩ := h e (List.mem_cons.mpr (.inl rfl))
    refine ⟨?_, ?_⟩
    · show ((PyData.strOk (S e.1) && (PyData.strOk (S e.2.1) && (true && true))) && PyData.canLayAll0 (r.map tieD)) = true
      rw [strOk_S a, strOk_S b, h1]
      rfl
    · show max (max 0 (max 0 (max 0 0)) + 1) (PyData.depthAll (r.map tieD)) ≤ 1
      omega
theorem half_no (n : Int) (l : Nm) : halfD n ≠ strD l := fun z => by
  unfold halfD at z
  split at z <;> cases z
theorem half_shape (n : Int) : ∃ a b : Int, halfD n = .tuple [.int a, .int b] := by
  unfold halfD
  by_cases c : n % 2 = 0
  · exact ⟨_, _, if_pos c⟩
  · exact ⟨_, _, if_neg c⟩
theorem mid_shape {pl : List Nm} {ts : List Tie} (F : Fine pl ts) : ∃ (p q : Nm) (a b c e : Int), p ∈ pl ∧ q ∈ pl ∧ middleD pl ts = .tuple [.tuple [strD p, strD q, .tuple [.int a, .int b]], .tuple [.int c, .int e]] := by
  obtain ⟨tu, tx, _⟩ := top_in F
  unfold middleD
  generalize hT : topOf pl ts = T
  have hT' : topT (0, pl.headD [], pl.headD []) (pairsOf pl ts) = T := hT
  rw [hT'] at tu tx
  have mf := mid_facts F.tree tu tx
  have pin : ∀ y ∈ path ts T.2.1 T.2.2, y ∈ pl := fun y hy => (F.tree.the_way tu tx).inside (fun e he => ⟨(F.tree.ties e he).1, (F.tree.ties e he).2.1⟩) tu y hy
  obtain ⟨c, e, ece⟩ := half_shape T.1
  rw [ece]
  unfold pointD
  by_cases k : 2 * dist ts T.2.1 (hi ts T.2.1 T.2.2) = dist ts T.2.1 T.2.2
  · rw [if_pos k]
    exact ⟨_, _, 0, 1, c, e, pin _ mf.hiM, pin _ mf.hiM, rfl⟩
  · rw [if_neg k]
    obtain ⟨_, _, loM, _⟩ := mf.loE k
    by_cases k2 : pl.idxOf (lo ts T.2.1 T.2.2) < pl.idxOf (hi ts T.2.1 T.2.2)
    · rw [if_pos k2]
      obtain ⟨a, b, eab⟩ := half_shape (dist ts T.2.1 T.2.2 - 2 * dist ts T.2.1 (lo ts T.2.1 T.2.2))
      rw [eab]
      exact ⟨_, _, a, b, c, e, pin _ loM, pin _ mf.hiM, rfl⟩
    · rw [if_neg k2]
      obtain ⟨a, b, eab⟩ := half_shape (2 * dist ts T.2.1 (hi ts T.2.1 T.2.2) - dist ts T.2.1 T.2.2)
      rw [eab]
      exact ⟨_, _, a, b, c, e, pin _ mf.hiM, pin _ loM, rfl⟩
theorem eqv_same {d : PyData} (h : SeqAt.shaped d = true) : PyData.eqv d d = true := SeqAt.eqv_refl d (by
  unfold SeqAt.shaped at h
  simp at h
  exact h.1)
theorem tree_lay {pl : List Nm} {ts : List Tie} (h1 : ∀ l ∈ pl, NameOk l) (h2 : ∀ e ∈ ts, NameOk e.1 ∧ NameOk e.2.1) : PyData.canLay0 (treeD pl ts) = true ∧ PyData.depth (treeD pl ts) ≤ 3 := by
  have a : PyData.canLayAll0 (pl.map strD) = true := lay_strs h1
  have b : PyData.depthAll (pl.map strD) = 0 := dep_strs pl
  obtain ⟨c, e⟩ := ties_lay h2
  refine ⟨?_, ?_⟩
  · show (PyData.canLayAll0 (pl.map strD) && (PyData.canLayAll0 (ts.map tieD) && true)) = true
    rw [a, c]
    rfl
  · show max (PyData.depthAll (pl.map strD) + 1) (max (PyData.depthAll (ts.map tieD) + 1) 0) + 1 ≤ 3
    omega
theorem shaped_tree {pl : List Nm} {ts : List Tie} (h1 : ∀ l ∈ pl, NameOk l) (h2 : ∀ e ∈ ts, NameOk e.1 ∧ NameOk e.2.1) : SeqAt.shaped (treeD pl ts) = true := by
  obtain ⟨a, b⟩ := tree_lay h1 h2
  show (PyData.canLay0 (treeD pl ts) && decide (PyData.depth (treeD pl ts) ≤ 64)) = true
  rw [a, decide_eq_true (by omega)]
  rfl
theorem far_lay {pl : List Nm} {ts : List Tie} (F : Fine pl ts) : PyData.canLay0 (farD pl ts) = true ∧ PyData.depth (farD pl ts) ≤ 1 := by
  rw [(farD_top F).1]
  obtain ⟨a1, a2, _⟩ := top_in F
  refine ⟨?_, ?_⟩
  · show (true && (PyData.strOk _ && (PyData.strOk _ && true))) = true
    rw [strOk_S (F.ok _ a1), strOk_S (F.ok _ a2)]
    rfl
  · exact Nat.le_refl 1
theorem mid_lay {pl : List Nm} {ts : List Tie} (F : Fine pl ts) : PyData.canLay0 (middleD pl ts) = true ∧ PyData.depth (middleD pl ts) ≤ 3 := by
  obtain ⟨p, q, a, b, c, e, hp, hq, ee⟩ := mid_shape F
  rw [ee]
  have sp := strOk_S (F.ok p hp)
  have sq := strOk_S (F.ok q hq)
  constructor
  · show ((PyData.strOk (S p) && (PyData.strOk (S q) && ((true && (true && true)) && true))) && ((true && (true && true)) && true)) = true
    rw [sp, sq]
    rfl
  · exact Nat.le_refl 3
theorem shaped_of {d : PyData} {n : Nat} (h : PyData.canLay0 d = true ∧ PyData.depth d ≤ n) (l : n ≤ 64) : SeqAt.shaped d = true := by
  show (PyData.canLay0 d && decide (PyData.depth d ≤ 64)) = true
  rw [h.1, decide_eq_true (by omega)]
  rfl
theorem shaped_far {pl : List Nm} {ts : List Tie} (F : Fine pl ts) : SeqAt.shaped (farD pl ts) = true := shaped_of (far_lay F) (by omega)
theorem shaped_mid {pl : List Nm} {ts : List Tie} (F : Fine pl ts) : SeqAt.shaped (middleD pl ts) = true := shaped_of (mid_lay F) (by omega)
theorem shaped_nms {ls : List Nm} (h : ∀ l ∈ ls, NameOk l) : SeqAt.shaped (.tuple (ls.map strD)) = true := shaped_strs h
theorem shaped_itp (ls : List Int) : SeqAt.shaped (.tuple (ls.map PyData.int)) = true := shaped_intL ls
end Far

namespace Far
open PySem PySem.Spec PyProof.Rows L2
open C8 (pss_cut tCut)
open SX (S)
/-- the so manieth pair of the tree, and of the longer one -/
theorem Scl.nth {pl : List Nm} {ts : List Tie} {m : Int} (z : Scl m pl ts) (n : Int) : (nthD pl ts n = .none ∧ nthD pl (ts.map (scl m)) n = .none) ∨ ∃ x : Tri, x.2.1 ∈ pl ∧ x.2.2 ∈ pl ∧ nthD pl ts n = triD x ∧ nthD pl (ts.map (scl m)) n = triD (tms m x) := by
  unfold nthD
  by_cases c : 0 ≤ n
  · rw [if_pos c, if_pos c, z.byFar, List.getElem?_map]
    cases e : (Far.byFar pl ts)[n.toNat]? with
    | none => exact .inl ⟨rfl, by first | rfl | rw [e]; rfl⟩
    | some x =>
      have hx : x ∈ pairsOf pl ts := (List.mergeSort_perm _ _).mem_iff.mp (List.mem_of_getElem? e)
      obtain ⟨h1, h2, _⟩ := mem_pairs hx
      exact .inr ⟨x, h1, h2, rfl, by first | rfl | rw [e]; rfl⟩
  · rw [if_neg c, if_neg c]
    exact .inl ⟨rfl, rfl⟩
/-- the middle of the tree, and of the longer one -/
theorem Scl.middle {pl : List Nm} {ts : List Tie} {m : Int} (z : Scl m pl ts) : ∃ (a b : Nm) (n N : Int), a ∈ pl ∧ b ∈ pl ∧ 0 ≤ n ∧ 0 ≤ N ∧ middleD pl ts = .tuple [.tuple [strD a, strD b, halfD n], halfD N] ∧ middleD pl (ts.map (scl m)) = .tuple [.tuple [strD a, strD b, halfD (n * m)], halfD (N * m)] := by
  obtain ⟨t1, t2, t3⟩ := top_in z.F
  have t1 : (topOf pl ts).2.1 ∈ pl := t1
  have t2 : (topOf pl ts).2.2 ∈ pl := t2
  obtain ⟨a, b, n, ha, hb, hn, e1, e2⟩ := z.point t1 t2
  have N0 := (top_ge pl ts).1
  refine ⟨a, b, n, (topOf pl ts).1, ha, hb, hn, N0, ?_, ?_⟩
  · unfold middleD
    rw [e1]
  · unfold middleD
    rw [z.top]
    show PyData.tuple [pointD pl (ts.map (scl m)) (topOf pl ts).2.1 (topOf pl ts).2.2, halfD ((topOf pl ts).1 * m)] = _
    rw [e2]
theorem no_tree {v : V} {m : Str} (h : (m == ("_tree" : Str)) = false) : ([("_tree", v)] : List (Str × V)).lookup m = none := by
  simp [List.lookup, h]
theorem dt_non {H : Hp} {v : V} (h : Dt H v .none) : v = .non := by
  cases h
  rfl
theorem catA0 {K : PySem.W.Frag} {H : Hp} {a b : Addr} {xs ys : List V} {Q : VK} (ha : H a = some (.tup xs)) (hb : H b = some (.tup ys)) (l : xs.length + ys.length ≤ sizeLine) (k : ∀ p H', Same H H' → H' p = some (.tup (xs ++ ys)) → Q (.ref p) H') : rCatA K (.ref a) (.ref b) H Q :=
  ⟨a, b, xs, ys, rfl, rfl, SqT.of ha, SqT.of hb, l, fun e => k b H (Same.refl _) (by rw [e]; exact hb), fun _ e => k a H (Same.refl _) (by rw [e, List.append_nil]; exact ha), fun _ _ p n => k p _ (same_new (Same.refl _) n) upd_same⟩
theorem dt_triX {H : Hp} {b : Addr} {x : Tri} (h : H b = some (.tup [.int x.1, .str (S x.2.1), .str (S x.2.2)])) : Dt H (.ref b) (triD x) := .tup h (.cons (.int _) (.cons (.str _) (.cons (.str _) .nil)))
abbrev s_law_counted_right : Stmt := topS 64
abbrev N_law_counted_right : List Str := ["tree", "more", "times", "at", "one", "other", "point", "half", "due", "kept"]
theorem sc_law_counted_right : FnScope N_law_counted_right ["tree", "more", "times", "at"] (defScope s_law_counted_right) := ⟨rfl, rfl, rfl, by decide +kernel, rfl, by decide +kernel, by decide +kernel⟩
section
variable {P : Program} {w : World} {K : PySem.W.Frag} {mg : Str → Option Value} {base : Heap} {TL : List (Addr × Str)} {C : Addr}
def spCntR (TL : List (Addr × Str)) : Sp := fun vs H Q _ => ∃ (v v' : V) (pl : List Nm) (ts : List Tie) (m n : Int), vs = [v, v', .int m, .int n] ∧ Dt H v (treeD pl ts) ∧ Dt H v' (treeD pl (ts.map (scl m))) ∧ PlZ H v pl ∧ PlZ H v' pl ∧ Scl m pl ts ∧ m ≤ 1000000 ∧ LamX.Tabs TL H ∧ ∀ H' : Hp, LamX.ExtN H H' → LamX.Tabs TL H' → Q (.bl true) H'
theorem ok_cntr {f : Addr} {fd : FuncData} (F : Fun K "_law_counted_right" "_law_counted_right" s_law_counted_right f fd) (Cnth_farthest : Cal P w K mg base 5 "nth_farthest" (spNth TL)) (Ccount_so_far : Cal P w K mg base 5 "count_so_far" spCount) (Cmiddle_point : Cal P w K mg base 6 "middle_point" spMp) (C_law_fraction : Cal P w K mg base 1 "_law_fraction" spLFrac) (Cfarthest : Cal P w K mg base 5 "farthest" spFarthest) (MKeptTree : CalK P w K mg base 1 C "KeptTree" (spKInit C)) (Mtree_now : CalM P w K mg base 1 C "tree_now" (spNow C)) (Mfarthest_now : CalM P w K mg base 6 C "farthest_now" (spFarNow C)) (Mmiddle_now : CalM P w K mg base 7 C "middle_now" (spMidNow C)) : FnOk P w K mg base CX0 8 f fd ["tree", "more", "times", "at"] (spCntR TL) := by
  refine F.ok sc_law_counted_right (fun vs H Q E h => ?_) (fun cdv A outer s H vs Q E hr h => ?_)
  · obtain ⟨v, v', pl, ts, m, n, rfl, _⟩ := h
    rfl
  · obtain ⟨v, v', pl, ts, m, n, rfl, hd, hd', hz, hz', z, mm, hT, q⟩ := h
    refine ⟨_, (pss_cons (ps_set (i := 4) sc_law_counted_right.nd rfl (.inl rfl) (pe_c Cnth_farthest hr (by decide) rfl (pa_cons (pv 0) (pa_cons (pv 3) pa_nil))))
      (pss_cons (ps_set (i := 5) sc_law_counted_right.nd rfl (.inl rfl) (pe_c Cnth_farthest hr (by decide) rfl (pa_cons (pv 1) (pa_cons (pv 3) pa_nil))))
      (pss_cut (ps_if (PW.pt (pw_or (pt_cmpR op_isN (pv 4) pe_non (nomark _)) (pw_or1 (pt_cmpR op_isN (pv 5) pe_non (nomark _)))))
        (pss_one (ps_if (PW.pt (pw_or (pt_cmpR op_notN (pv 4) pe_non (nomark _)) (pw_or1 (pt_cmpR op_notN (pv 5) pe_non (nomark _)))))
          (pss_one (ps_ret pe_bl))
          pss_nil))
        (pss_one (ps_if (PW.pt (pw_or (pt_cmpR (op_neD (hd_of hr (by decide))) (pv 5) (pe_op op_catA (pe_tup (pa_cons (pe_op op_mul (pe_ix ix_tup (pv 4) pe_int (fun _ _ => rfl)) (pv 2)) pa_nil)) (pe_slice sl_tup (pv 4) (po_some pe_int) po_none)) (nomark _)) (pw_or1 (pt_cmpR (op_neD (hd_of hr (by decide))) (pe_c Ccount_so_far hr (by decide) rfl (pa_cons (pv 1) (pa_cons (pe_ix ix_tup (pv 5) pe_int (fun _ _ => rfl)) pa_nil))) (pe_c Ccount_so_far hr (by decide) rfl (pa_cons (pv 0) (pa_cons (pe_ix ix_tup (pv 4) pe_int (fun _ _ => rfl)) pa_nil))) (nomark _)))))
          (pss_one (ps_ret pe_bl))
          pss_nil)))
      (pss_cons (ps_asg (pe_c Cmiddle_point hr (by decide) rfl (pa_cons (pv 0) pa_nil)) (pg_tup rfl (pgs_cons (pg_name (i := 6) sc_law_counted_right.nd rfl (.inl rfl)) (pgs_cons (pg_name (i := 7) sc_law_counted_right.nd rfl (.inl rfl)) pgs_nil))))
      (pss_cons (ps_set (i := 8) sc_law_counted_right.nd rfl (.inl rfl) (pe_tup (pa_cons (pe_tup (pa_cons (pe_ix ix_tup (pv 6) pe_int (fun _ _ => rfl)) (pa_cons (pe_ix ix_tup (pv 6) pe_int (fun _ _ => rfl)) (pa_cons (pe_c C_law_fraction hr (by decide) rfl (pa_cons (pe_ix ix_tup (pv 6) pe_int (fun _ _ => rfl)) (pa_cons (pv 2) pa_nil))) pa_nil)))) (pa_cons (pe_c C_law_fraction hr (by decide) rfl (pa_cons (pv 7) (pa_cons (pv 2) pa_nil))) pa_nil))))
      (pss_cut (ps_if (pt_cmpR (op_neD (hd_of hr (by decide))) (pe_c Cmiddle_point hr (by decide) rfl (pa_cons (pv 1) pa_nil)) (pv 8) (nomark _))
        (pss_one (ps_ret pe_bl))
        pss_nil)
      (pss_cons (ps_set (i := 9) sc_law_counted_right.nd rfl (.inl rfl) (pe_mk MKeptTree hr (by decide) rfl (pa_cons (pv 1) pa_nil)))
      (pss_one (ps_ret (pe_and (pe_cmpR (op_eqD (hd_of hr (by decide))) (pe_mX0 takes0 Mfarthest_now hr (by decide) (pv 9)) (pe_c Cfarthest hr (by decide) rfl (pa_cons (pv 1) pa_nil)) (nomark _)) (pe_and (pe_cmpR (op_eqD (hd_of hr (by decide))) (pe_mX0 takes0 Mmiddle_now hr (by decide) (pv 9)) (pv 8) (nomark _)) (pe_one (pe_cmpR (op_eqD (hd_of hr (by decide))) (pe_mX0 takes0 Mtree_now hr (by decide) (pv 9)) (pv 1) (nomark _)))))))))))))), ?_⟩
    refine ⟨_, rfl, _, rfl, v, pl, ts, n, rfl, hd, z.F, hT, fun H1 r1 e1 T1 h1 => ?_⟩
    refine ⟨_, rfl, _, rfl, v', pl, _, n, rfl, Dt.keep (TK.ofN e1) hd', z.fine, T1, fun H2 r2 e2 T2 h2 => ?_⟩
    have E2 := e1.trans e2
    have h1 := Dt.keep (TK.ofN e2) h1
    refine ⟨fun σ' H' => σ' = [some v, some v', some (.int m), some (.int n), some r1, some r2, none, none, none, none] ∧ Same H2 H', ?_, fun σ' H3 hM => ?_⟩
    · rcases z.nth n with ⟨n1, n2⟩ | ⟨x, x1, x2, n1, n2⟩
      · rw [n1] at h1
        rw [n2] at h2
        have a1 := dt_non h1
        have a2 := dt_non h2
        subst a1 a2
        refine ⟨_, rfl, rfl, _, rfl, iteT (iteT ?_)⟩
        refine ⟨_, rfl, rfl, _, rfl, iteF' (by simp) ⟨_, rfl, rfl, _, rfl, iteF' (by simp) ⟨rfl, Same.refl _⟩⟩⟩
      · rw [n1] at h1
        rw [n2] at h2
        obtain ⟨f1, rfl, g1⟩ := dt_tri h1
        obtain ⟨f2, rfl, g2⟩ := dt_tri h2
        refine ⟨_, rfl, rfl, _, rfl, iteF' (by simp) ⟨_, rfl, rfl, _, rfl, iteF' (by simp) ?_⟩⟩
        have W1 : SeqAt.shaped (triD (Far.tms m x)) = true := by
          show ((true && (PyData.strOk (S x.2.1) && (PyData.strOk (S x.2.2) && true))) && _) = true
          rw [strOk_S (z.F.ok _ x1), strOk_S (z.F.ok _ x2)]
          rfl
        refine ⟨_, rfl, _, rfl, f1, _, 0, _, rfl, rfl, SqT.of g1, atI_nat (j := 0) rfl, _, rfl, _, _, rfl, rfl, .inr ⟨by have := z.m1; omega, by omega⟩, (by show 1 ≤ sizeLine; decide), fun p1 np1 => ?_⟩
        have X1 := same_new (o := .tup [.int (x.1 * m)]) (Same.refl H2) np1
        have hp1 : (upd H2 p1 (.tup [.int (x.1 * m)])) p1 = some (.tup [.int (x.1 * m)]) := upd_same
        generalize upd H2 p1 (.tup [.int (x.1 * m)]) = HA at X1 hp1
        refine ⟨_, rfl, 1, rfl, f1, _, rfl, SqT.of (X1 _ _ g1), (cut_fromN (j := 1) (by omega) (by show 1 ≤ 3; omega)), fun p2 np2 => ?_⟩
        have ecut : cutV [V.int x.1, .str (S x.2.1), .str (S x.2.2)] (some 1) none = [.str (S x.2.1), .str (S x.2.2)] := cut_from (j := 1) (by show 1 ≤ 3; omega)
        rw [ecut]
        have X2 := same_new (o := .tup [.str (S x.2.1), .str (S x.2.2)]) X1 np2
        have hp1' := same_new (o := .tup [.str (S x.2.1), .str (S x.2.2)]) (Same.refl _) np2 _ _ hp1
        have hp2 : (upd HA p2 (.tup [.str (S x.2.1), .str (S x.2.2)])) p2 = some (.tup [.str (S x.2.1), .str (S x.2.2)]) := upd_same
        generalize upd HA p2 (.tup [.str (S x.2.1), .str (S x.2.2)]) = HB at X2 hp1' hp2
        refine catA0 hp1' hp2 (by show 3 ≤ sizeLine; decide) fun p3 HX SX hp3 => ?_
        have X3 := X2.trans SX
        refine ⟨_, _, Dt.dp (Dt.keep (TK.of X3) h2), Dt.dp (dt_triX (x := Far.tms m x) hp3), W1, W1, _, rfl, ?_⟩
        rw [eqv_same W1]
        refine iteF ?_
        have E3 : LamX.ExtN H _ := fun c o h n => X3 c o (E2 c o h n)
        refine ⟨_, rfl, _, rfl, f2, _, 0, _, rfl, rfl, SqT.of (X3 _ _ g2), atI_nat (j := 0) rfl, v', pl, _, x.1 * m, rfl, Dt.keep (TK.ofN E3) hd', z.fine, fun HC rC SC hC => ?_⟩
        have E4 : LamX.ExtN H HC := fun c o h n => SC c o (E3 c o h n)
        refine ⟨_, rfl, _, rfl, f1, _, 0, _, rfl, rfl, SqT.of (SC _ _ (X3 _ _ g1)), atI_nat (j := 0) rfl, v, pl, _, x.1, rfl, Dt.keep (TK.ofN E4) hd, z.F, fun HD rD SD hD => ?_⟩
        rw [z.cnt] at hC
        have W2 : SeqAt.shaped (cntD (lensOf pl ts) x.1) = true := rfl
        refine ⟨_, _, Dt.dp (Dt.keep (TK.of SD) hC), Dt.dp hD, W2, W2, _, rfl, ?_⟩
        rw [eqv_same W2]
        exact iteF ⟨rfl, X3.trans (SC.trans SD)⟩
    · obtain ⟨rfl, S3⟩ := hM
      have E3 : LamX.ExtN H H3 := fun c o h n => S3 c o (E2 c o h n)
      have T3 := T2.ext S3
      obtain ⟨a, b, n0, N, ma, mb, n0p, Np, em, em'⟩ := z.middle
      have hd3 := Dt.keep (TK.ofN E3) hd
      have hd3' := Dt.keep (TK.ofN E3) hd'
      have hz3 := hz.keep (TK.ofN E3)
      have hz3' := hz'.keep (TK.ofN E3)
      refine ⟨_, rfl, v, pl, ts, rfl, hd3, hz3, z.F, fun H4 r4 S4 h4 => ?_⟩
      rw [em] at h4
      obtain ⟨m4, xs4, rfl, hm4, hx4⟩ := dt_tup h4 fun _ => ⟨_, List.mem_cons_of_mem _ List.mem_cons_self, half_no _⟩
      cases hx4 with
      | cons hp4 hx4 =>
      cases hx4 with
      | cons hh4 hx4 =>
      cases hx4
      obtain ⟨p5, xs5, rfl, hp5, hx5⟩ := dt_tup hp4 fun _ => ⟨_, List.mem_cons_of_mem _ (List.mem_cons_of_mem _ List.mem_cons_self), half_no _⟩
      cases hx5 with
      | cons i1 hx5 =>
      cases i1
      cases hx5 with
      | cons i2 hx5 =>
      cases i2
      cases hx5 with
      | cons hc5 hx5 =>
      cases hx5
      obtain ⟨c1, c2, ec⟩ := half_shape n0
      obtain ⟨g1, g2, eg⟩ := half_shape N
      rw [ec] at hc5
      rw [eg] at hh4
      obtain ⟨c6, xs6, rfl, hc6, hx6⟩ := dt_tup hc5 fun _ => ⟨_, List.mem_cons_self, fun l q => by cases q⟩
      cases hx6 with
      | cons i1 hx6 =>
      cases i1
      cases hx6 with
      | cons i2 hx6 =>
      cases i2
      cases hx6
      obtain ⟨h7, xs7, rfl, hh7, hx7⟩ := dt_tup hh4 fun _ => ⟨_, List.mem_cons_self, fun l q => by cases q⟩
      cases hx7 with
      | cons i1 hx7 =>
      cases i1
      cases hx7 with
      | cons i2 hx7 =>
      cases i2
      cases hx7
      refine ⟨m4, _, rfl, SqT.of hm4, rfl, _, _, rfl, _, _, rfl, rfl, ?_⟩
      refine ⟨_, rfl, p5, _, 0, _, rfl, rfl, SqT.of hp5, atI_nat (j := 0) rfl, _, rfl, p5, _, 1, _, rfl, rfl, SqT.of hp5, atI_nat (j := 1) rfl, _, rfl, p5, _, 2, _, rfl, rfl, SqT.of hp5, atI_nat (j := 2) rfl, _, rfl, c6, c1, c2, n0, m, rfl, hc6, ec, n0p, z.m1, mm, fun H5 r5 S5 h5 => ?_⟩
      refine ⟨(by show 3 ≤ sizeLine; decide), fun p7 np7 => ?_⟩
      have X7 := same_new (o := .tup [.str (S a), .str (S b), r5]) (Same.refl H5) np7
      have hp7 : (upd H5 p7 (.tup [.str (S a), .str (S b), r5])) p7 = some (.tup [.str (S a), .str (S b), r5]) := upd_same
      have h5' := Dt.keep (TK.of X7) h5
      generalize upd H5 p7 (.tup [.str (S a), .str (S b), r5]) = H6 at X7 hp7 h5'
      refine ⟨_, rfl, _, rfl, h7, g1, g2, N, m, rfl, X7 _ _ (S5 _ _ hh7), eg, Np, z.m1, mm, fun H8 r8 S8 h8 => ?_⟩
      refine ⟨(by show 2 ≤ sizeLine; decide), fun p9 np9 => ?_⟩
      have X9 := same_new (o := .tup [.ref p7, r8]) S8 np9
      have due : Dt (upd H8 p9 (.tup [.ref p7, r8])) (.ref p9) (middleD pl (ts.map (scl m))) := by
        rw [em']
        exact .tup upd_same (.cons (.tup (X9 _ _ hp7) (.cons (.str _) (.cons (.str _) (.cons (Dt.keep (TK.of X9) h5') .nil)))) (.cons (Dt.keep (TK.new np9) h8) .nil))
      generalize upd H8 p9 (.tup [.ref p7, r8]) = H10 at X9 due
      have S10 := S4.trans (S5.trans (X7.trans X9))
      have shm := shaped_mid z.fine
      have shf := shaped_far z.fine
      have sht : SeqAt.shaped (treeD pl (ts.map (scl m))) = true := shaped_tree z.fine.ok fun e he => z.fine.okT he
      refine ⟨fun σ' H' => σ' = [some v, some v', some (.int m), some (.int n), some r1, some r2, some (.ref p5), some (.ref h7), some (.ref p9), none] ∧ Same H10 H', ?_, fun σ' H11 hM => ?_⟩
      · refine ⟨_, rfl, v', pl, _, rfl, Dt.keep (TK.of S10) hd3', hz3'.same S10, z.fine, fun H11 r11 S11 h11 => ?_⟩
        refine ⟨_, rfl, _, _, Dt.dp h11, Dt.dp (Dt.keep (TK.of S11) due), shm, shm, _, rfl, ?_⟩
        rw [eqv_same shm]
        exact iteF ⟨rfl, S11⟩
      · obtain ⟨rfl, S11⟩ := hM
        have S11' := S10.trans S11
        have due11 := Dt.keep (TK.of S11) due
        refine ⟨_, rfl, fun p dx np ndx nex => ⟨p, dx, v', rfl, upd_same, rfl, ?_⟩⟩
        rw [upd_upd]
        have S12 : Same H11 (upd (upd H11 dx (.own p)) p (.ins C dx [("_tree", v')])) := same_put (same_new (Same.refl _) ndx) np
        have W12 := S11'.trans S12
        have hp12 : (upd (upd H11 dx (.own p)) p (.ins C dx [("_tree", v')])) p = some (.ins C dx [("_tree", v')]) := upd_same
        have K12 : KeptZ C (upd (upd H11 dx (.own p)) p (.ins C dx [("_tree", v')])) p pl (ts.map (scl m)) := ⟨dx, _, upd_same, Dt.keep (TK.of W12) hd3', hz3'.same W12⟩
        generalize upd (upd H11 dx (.own p)) p (.ins C dx [("_tree", v')]) = H12 at S12 W12 hp12 K12
        refine ⟨_, rfl, p, dx, _, rfl, hp12, no_tree (by decide +kernel), p, pl, _, rfl, K12.at, z.fine, fun H13 r13 S13 h13 => ?_⟩
        refine ⟨_, rfl, v', pl, _, rfl, Dt.keep (TK.of (W12.trans S13)) hd3', z.fine, fun H14 r14 S14 h14 => ?_⟩
        refine ⟨_, _, Dt.dp (Dt.keep (TK.of S14) h13), Dt.dp h14, shf, shf, _, rfl, ?_⟩
        rw [eqv_same shf]
        refine iteT ?_
        have S1214 := S13.trans S14
        refine ⟨_, rfl, p, dx, _, rfl, S1214 _ _ hp12, no_tree (by decide +kernel), p, pl, _, rfl, K12.same S1214, z.fine, fun H15 r15 S15 h15 => ?_⟩
        have S1215 := S1214.trans S15
        refine ⟨_, rfl, _, _, Dt.dp h15, Dt.dp (Dt.keep (TK.of (S12.trans S1215)) due11), shm, shm, _, rfl, ?_⟩
        rw [eqv_same shm]
        refine iteT ?_
        refine ⟨_, rfl, p, dx, _, rfl, S1215 _ _ hp12, no_tree (by decide +kernel), p, pl, _, rfl, K12.same S1215, fun v2 h2' z2 => ?_⟩
        refine ⟨_, rfl, _, _, Dt.dp h2', Dt.dp (Dt.keep (TK.of (W12.trans S1215)) hd3'), sht, sht, ?_⟩
        rw [eqv_same sht]
        have SS := W12.trans S1215
        exact q _ (fun c o h n => SS c o (E3 c o h n)) (T3.ext SS)
end
end Far

namespace Far
open PySem PySem.Spec PyProof.Rows L2
open C8 (pss_cut tCut)
open SX (S)
open LamX
/-! ### lists and tuples of data in the heap -/
structure LK (H H' : Hp) : Prop where
  tk : TK H H'
  lst : ∀ b xs, H b = some (.lst xs) → H' b = some (.lst xs)
theorem LK.of {H H' : Hp} (s : Same H H') : LK H H' := ⟨TK.of s, fun b xs h => s b _ h⟩
theorem LK.ofN {H H' : Hp} (e : ExtN H H') : LK H H' := ⟨TK.ofN e, fun b xs h => e _ _ h (fun ps z => by cases z)⟩
theorem LK.trans {H H1 H2 : Hp} (a : LK H H1) (b : LK H1 H2) : LK H H2 := ⟨a.tk.trans b.tk, fun x xs h => b.lst x xs (a.lst x xs h)⟩
mutual
inductive Dq (H : Hp) : V → PyData → Prop
  | dt {v : V} {d : PyData} : Dt H v d → Dq H v d
  | lst {a : Addr} {xs : List V} {ds : List PyData} : H a = some (.lst xs) → DqAll H xs ds → Dq H (.ref a) (.list ds)
  | tup {a : Addr} {xs : List V} {ds : List PyData} : H a = some (.tup xs) → DqAll H xs ds → Dq H (.ref a) (.tuple ds)
inductive DqAll (H : Hp) : List V → List PyData → Prop
  | nil : DqAll H [] []
  | cons {v : V} {vs : List V} {d : PyData} {ds : List PyData} : Dq H v d → DqAll H vs ds → DqAll H (v :: vs) (d :: ds)
end
mutual
theorem Dq.keep {H H' : Hp} (t : LK H H') : ∀ {v : V} {d : PyData}, Dq H v d → Dq H' v d
  | _, _, .dt a => .dt (Dt.keep t.tk a)
  | _, _, .lst a b => .lst (t.lst _ _ a) (DqAll.keep t b)
  | _, _, .tup a b => .tup (t.tk.tup _ _ a) (DqAll.keep t b)
theorem DqAll.keep {H H' : Hp} (t : LK H H') : ∀ {vs : List V} {ds : List PyData}, DqAll H vs ds → DqAll H' vs ds
  | _, _, .nil => .nil
  | _, _, .cons a b => .cons (Dq.keep t a) (DqAll.keep t b)
end
mutual
theorem Dq.dp {K : PySem.W.Frag} {H : Hp} : ∀ {v : V} {d : PyData}, Dq H v d → Dp K H v d
  | _, _, .dt a => Dt.dp a
  | _, _, .lst a b => .lst (SqL.of a) (DqAll.dp b)
  | _, _, .tup a b => .tup (SqT.of a) (DqAll.dp b)
theorem DqAll.dp {K : PySem.W.Frag} {H : Hp} : ∀ {vs : List V} {ds : List PyData}, DqAll H vs ds → DpAll K H vs ds
  | _, _, .nil => .nil
  | _, _, .cons a b => .cons (Dq.dp a) (DqAll.dp b)
end
theorem DqAll.len {H : Hp} : ∀ {vs : List V} {ds : List PyData}, DqAll H vs ds → vs.length = ds.length
  | _, _, .nil => rfl
  | _, _, .cons _ b => congrArg (· + 1) (DqAll.len b)
theorem DqAll.app {H : Hp} : ∀ {vs ws : List V} {ds es : List PyData}, DqAll H vs ds → DqAll H ws es → DqAll H (vs ++ ws) (ds ++ es)
  | _, _, _, _, .nil, h => h
  | _, _, _, _, .cons a b, h => .cons a (DqAll.app b h)
theorem DqAll.of {H : Hp} : ∀ {vs : List V} {ds : List PyData}, DtAll H vs ds → DqAll H vs ds
  | _, _, .nil => .nil
  | _, _, .cons a b => .cons (.dt a) (DqAll.of b)
/-- a list of data at an address -/
def Lq (H : Hp) (l : Addr) (ds : List PyData) : Prop := ∃ xs : List V, H l = some (.lst xs) ∧ DqAll H xs ds
theorem Lq.keep {H H' : Hp} {l : Addr} {ds : List PyData} (h : Lq H l ds) (t : LK H H') : Lq H' l ds := by
  obtain ⟨xs, a, b⟩ := h
  exact ⟨xs, t.lst _ _ a, DqAll.keep t b⟩
theorem Lq.new {H : Hp} {p : Addr} {xs : List V} {ds : List PyData} (h : DqAll H xs ds) (n : H p = none) : Lq (upd H p (.lst xs)) p ds := ⟨xs, upd_same, DqAll.keep (LK.of (same_new (Same.refl _) n)) h⟩
theorem Lq.mk {H : Hp} {p : Addr} {xs : List V} {ds : List PyData} (h : DqAll H xs ds) (n : H p = none) : ∃ H' : Hp, H' = upd H p (.lst xs) ∧ Same H H' ∧ Lq H' p ds := ⟨_, rfl, same_new (Same.refl _) n, Lq.new h n⟩
theorem cat_lq {H : Hp} {l1 l2 : Addr} {ds es : List PyData} {Q : VK} (h1 : Lq H l1 ds) (h2 : Lq H l2 es) (sz : ds.length + es.length ≤ 100000) (k : ∀ p H', Same H H' → Lq H' p (ds ++ es) → Q (.ref p) H') : rCat (.ref l1) (.ref l2) H Q := by
  obtain ⟨xs, a1, b1⟩ := h1
  obtain ⟨ys, a2, b2⟩ := h2
  have e1 := b1.len
  have e2 := b2.len
  exact ⟨l1, l2, _, _, rfl, rfl, a1, a2, by rw [e1, e2]; exact sz_le sz, fun p np => k p _ (same_new (Same.refl _) np) (Lq.new (DqAll.app b1 b2) np)⟩
/-- the heap without one address -/
def wout (H : Hp) (D : Addr) : Hp := fun c => if c = D then none else H c
theorem wout_to {H : Hp} (D : Addr) : Same (wout H D) H := fun c o h => by
  unfold wout at h
  by_cases e : c = D
  · rw [if_pos e] at h; cases h
  · rwa [if_neg e] at h
theorem wout_of {H H' : Hp} {D : Addr} (s : Same H H') (n : H D = none) : Same H (wout H' D) := fun c o h => by
  unfold wout
  have e : ¬ c = D := fun z => by rw [z, n] at h; cases h
  rw [if_neg e]
  exact s c o h
theorem wout_same {H H' : Hp} {D : Addr} (s : Same H H') : Same (wout H D) (wout H' D) := fun c o h => by
  unfold wout at *
  by_cases e : c = D
  · rw [if_pos e] at h; cases h
  · rw [if_neg e] at h ⊢
    exact s c o h
theorem wout_upd {H : Hp} {D : Addr} {o : HO} : wout (upd H D o) D = wout H D := funext fun c => by
  unfold wout
  by_cases e : c = D
  · rw [if_pos e, if_pos e]
  · rw [if_neg e, if_neg e, upd_ne e]
theorem wout_at {H : Hp} {D c : Addr} {o : HO} (h : H c = some o) (n : c ≠ D) : wout H D c = some o := by
  unfold wout
  rw [if_neg n]
  exact h
theorem wout_tk {H : Hp} {D : Addr} {xs : List V} (h : H D = some (.lst xs)) : TK H (wout H D) := by
  refine ⟨?_, ?_⟩
  · intro b ys hb
    exact wout_at hb fun z => by rw [z, h] at hb; cases hb
  · intro b o u hb
    exact wout_at hb fun z => by rw [z, h] at hb; cases hb
/-! ### the datum that is told -/
def cutP (x : Tri) : PyData := .tuple [strD x.2.1, strD x.2.2]
def tiP (t : Tie) : PyData := .tuple [strD t.1, strD t.2.1]
def plP (T : Tr2) : PyData := .tuple [.tuple (T.1.map strD), .list (T.2.map tiP)]
def cntP (s : List Int) : PyData := .list ((dd s).map fun n => .int ((s.countP fun z => z == n : Nat) : Int))
noncomputable def fm1 (pl : List Nm) (ts : List Tie) (x : Nm) : List PyData := [.tuple ((path ts (pl.headD []) x).map strD), cutP (topOf pl ts), allD pl ts, thoseD pl (rch pl ts) (midN pl ts)]
noncomputable def fm2 (pl : List Nm) (ts : List Tie) (x : Nm) (s : List Int) (b : Tri) : List PyData := fm1 pl ts x ++ [leastD pl ts, cntP s, cutP b]
noncomputable def fm3 (pl : List Nm) (ts : List Tie) (x : Nm) (s : List Int) (b w : Tri) : List PyData := fm2 pl ts x s b ++ [cutP w, .tuple ((leavesOf pl ts).map strD)]
noncomputable def fm4 (pl : List Nm) (ts : List Tie) (x : Nm) (s : List Int) (b w : Tri) (c : PyData) (L : List Tr2) : List PyData := fm3 pl ts x s b w ++ [c] ++ [.list (L.map plP)]
def chP (z : Qua) : PyData := .tuple [.int z.2.1, strD z.2.2.1, strD z.2.2.2]
inductive Forms (pl : List Nm) (ts : List Tie) (pl' : List Nm) (ts' : List Tie) (k : Int) (x : Nm) : PyData → Prop
  | mk {s : List Int} {b w : Tri} {L : List Tr2} {c : PyData} : s.Perm (lensOf pl ts) → s.Pairwise (· ≤ ·) → FL (joinsOf pl pl' ts ts' k pl) (fun z => id z.1) b → FL (joinsOf pl pl' ts ts' k pl) (fun z => -z.1) w → Peel (pl, ts) L → (∀ Y ∈ L, IsTree Y.1 Y.2 ∧ ∀ x ∈ Y.1, x ∈ pl) →
    ((ts = [] ∧ c = .none) ∨ ∃ z, FLq (allC pl ts ts.length) z ∧ ts ≠ [] ∧ c = chP z) → Forms pl ts pl' ts' k x (.list (fm4 pl ts x s b w c L))
abbrev cs_forms : Scope := { kind := ScopeKind.function, names := [(Str.ofString ".0", NameKind.local), (Str.ofString "one", NameKind.local)], isGenerator := false, isCoroutine := false }
abbrev s_law_forms : Stmt := topS 63
abbrev N_law_forms : List Str := ["tree", "others", "length", "place", "found", "change", "one", "tie"]
theorem sc_law_forms : FnScope N_law_forms ["tree", "others", "length", "place"] (defScope s_law_forms) := ⟨rfl, rfl, rfl, by decide +kernel, rfl, by decide +kernel, by decide +kernel⟩
section
variable {P : Program} {w : World} {K : PySem.W.Frag} {mg : Str → Option Value} {base : Heap} {TL : List (Addr × Str)}
def spForms (TL : List (Addr × Str)) : Sp := fun vs H Q _ => ∃ (v v' : V) (pl pl' : List Nm) (ts ts' : List Tie) (k : Int) (x : Nm), vs = [v, v', .int k, .str (S x)] ∧ Dt H v (treeD pl ts) ∧ Dt H v' (treeD pl' ts') ∧ Fine pl ts ∧ Fine pl' ts' ∧ (∀ y ∈ pl, y ∉ pl') ∧ x ∈ pl ∧ pl.length ≤ 40 ∧ pl'.length ≤ 40 ∧ Tabs TL H ∧
  ∀ (H' : Hp) (r : V) (d : PyData), ExtN H H' → Tabs TL H' → Dq H' r d → Forms pl ts pl' ts' k x d → Q r H'
theorem cut_one {a b c : V} : cutV [a, b, c] (some 1) none = [b, c] := cut_from (j := 1) (by show 1 ≤ 3; omega)
theorem cut_oneQ {a b c e : V} : cutV [a, b, c, e] (some 1) none = [b, c, e] := cut_from (j := 1) (by show 1 ≤ 4; omega)
theorem dt_cut {H : Hp} {p : Addr} {x : Tri} (h : H p = some (.tup [.str (S x.2.1), .str (S x.2.2)])) : Dt H (.ref p) (cutP x) := .tup h (.cons (.str _) (.cons (.str _) .nil))
theorem ok_forms {f : Addr} {fd : FuncData} (F : Fun K "_law_forms" "_law_forms" s_law_forms f fd) (T : Txt35 mg) (Cway_between : Cal P w K mg base 3 "way_between" spWay) (Cfarthest : Cal P w K mg base 5 "farthest" spFarthest) (Call_farthest : Cal P w K mg base 6 "all_farthest" spAllFarthest) (Cmiddles : Cal P w K mg base 5 "middles" spMid) (Cleast_sums : Cal P w K mg base 5 "least_sums" spLeast) (Cpairs_by_length : Cal P w K mg base 5 "pairs_by_length" spByLen) (Cbest_join : Cal P w K mg base 6 "best_join" (spBest TL id)) (Cworst_join : Cal P w K mg base 6 "worst_join" (spBest TL fun i => -i)) (Cleaves_of : Cal P w K mg base 1 "leaves_of" spLeaves) (Cpeeled : Cal P w K mg base 3 "peeled" spPeeled) (Cbest_change : Cal P w K mg base 5 "best_change" (spBC TL)) : FnOk P w K mg base CX0 7 f fd ["tree", "others", "length", "place"] (spForms TL) := by
  refine F.ok sc_law_forms (fun vs H Q E h => ?_) (fun cdv A outer s H vs Q E hr h => ?_)
  · obtain ⟨v, v', pl, pl', ts, ts', k, x, rfl, _⟩ := h
    rfl
  · obtain ⟨v, v', pl, pl', ts, ts', k, x, rfl, hd, hd', fine, fine', dis, mx, l40, l40', hT, q⟩ := h
    obtain ⟨t, a, b, vs, rfl, ht, ha, hb, hA⟩ := dt_tree hd
    have tl := fine.tree.len
    obtain ⟨h0, r0, e0⟩ : ∃ x r, pl = x :: r := by
      cases hp : pl with
      | nil => exact absurd hp fine.ne
      | cons x r => exact ⟨x, r, rfl⟩
    have f0 : ((pl.map S).map V.str)[0]? = some (.str (S h0)) := by rw [e0]; rfl
    have mh : h0 ∈ pl := by rw [e0]; exact List.mem_cons_self
    have ehd : pl.headD [] = h0 := by rw [e0]; rfl
    refine ⟨_, (pss_cons (ps_set (i := 4) sc_law_forms.nd rfl (.inl rfl) (pe_lst (pa_cons (pe_c Cway_between hr (by decide) rfl (pa_cons (pv 0) (pa_cons (pe_ix ix_tup (pe_ix ix_tup (pv 0) pe_int (fun _ _ => rfl)) pe_int (fun _ _ => rfl)) (pa_cons (pv 3) pa_nil)))) (pa_cons (pe_slice sl_tup (pe_c Cfarthest hr (by decide) rfl (pa_cons (pv 0) pa_nil)) (po_some pe_int) po_none) (pa_cons (pe_c Call_farthest hr (by decide) rfl (pa_cons (pv 0) pa_nil)) (pa_cons (pe_ix ix_tup (pe_c Cmiddles hr (by decide) rfl (pa_cons (pv 0) pa_nil)) pe_int (fun _ _ => rfl)) pa_nil))))))
      (pss_cons (ps_set (i := 4) sc_law_forms.nd rfl (.inl rfl) (pe_op op_cat (pv 4) (pe_lst (pa_cons (pe_c Cleast_sums hr (by decide) rfl (pa_cons (pv 0) pa_nil)) (pa_cons (pe_listVals rfl (pe_c Cpairs_by_length hr (by decide) rfl (pa_cons (pv 0) pa_nil)) (by rfl) T.list bt_list) (pa_cons (pe_slice sl_tup (pe_c Cbest_join hr (by decide) rfl (pa_cons (pv 0) (pa_cons (pv 1) (pa_cons (pv 2) pa_nil)))) (po_some pe_int) po_none) pa_nil))))))
      (pss_cons (ps_set (i := 4) sc_law_forms.nd rfl (.inl rfl) (pe_op op_cat (pv 4) (pe_lst (pa_cons (pe_slice sl_tup (pe_c Cworst_join hr (by decide) rfl (pa_cons (pv 0) (pa_cons (pv 1) (pa_cons (pv 2) pa_nil)))) (po_some pe_int) po_none) (pa_cons (pe_c Cleaves_of hr (by decide) rfl (pa_cons (pv 0) pa_nil)) pa_nil)))))
      (pss_cut (ps_set (i := 5) sc_law_forms.nd rfl (.inl rfl) (pe_c Cbest_change hr (by decide) rfl (pa_cons (pv 0) pa_nil)))
      (pss_cut (ps_set (i := 4) sc_law_forms.nd rfl (.inl rfl) (pe_op op_cat (pv 4) (pe_lst (pa_cons (pe_ifExp (pt_cmpR op_isN (pv 5) pe_non (nomark _)) pe_non (pe_slice sl_tup (pv 5) (po_some pe_int) po_none)) pa_nil))))
      (pss_one (ps_ret (pe_op op_cat (pv 4) (pe_lst (pa_cons (pe_lc (own := [("one", 6)]) (g := gName 6) (tt := tYes) rfl sc_law_forms.nd (pi_list (pe_c Cpeeled hr (by decide) rfl (pa_cons (pv 0) pa_nil))) (blkOk_by (N := N_law_forms) (sc := defScope s_law_forms) (by decide +kernel)) (fun _ _ _ _ _ => pg_name (i := 6) sc_law_forms.nd rfl (Or.inl rfl)) (fun _ _ _ _ _ => pts_nil) (fun _ _ _ _ _ => (pe_tup (pa_cons (pe_ix (ixt (K := K)) (pv 6) pe_int (fun _ _ => rfl)) (pa_cons (pe_lc (own := [("tie", 7)]) (g := gName 7) (tt := tYes) rfl sc_law_forms.nd (pi_tupK (K := K) (pe_ix (ixt (K := K)) (pv 6) pe_int (fun _ _ => rfl))) (blkOk_by (N := N_law_forms) (sc := cs_forms) (by decide +kernel)) (fun _ _ _ _ _ => pg_name (i := 7) sc_law_forms.nd rfl (Or.inl rfl)) (fun _ _ _ _ _ => pts_nil) (fun _ _ _ _ _ => (pe_slice (slTK (K := K)) (pv 7) po_none (po_some pe_int)))) pa_nil))))) pa_nil)))))))))), ?_⟩
    -- the way
    refine ⟨_, rfl, _, rfl, t, _, 0, .ref a, rfl, rfl, SqT.of ht, atI_nat (j := 0) rfl, a, _, 0, .str (S h0), rfl, rfl, ha.sq, atI_nat (j := 0) f0, _, rfl, .ref t, pl, ts, h0, x, rfl, hd, fine, mh, mx, fun H1 q1 S1 nq1 hq1 => ?_⟩
    have d1 : Dt H1 (.ref q1) (.tuple ((path ts (pl.headD []) x).map strD)) := by
      rw [ehd]
      exact .tup hq1 (dt_strs _ _)
    clear hq1 nq1
    -- the farthest two
    refine ⟨_, rfl, .ref t, pl, ts, rfl, Dt.keep (TK.of S1) hd, fine, fun H2 r2 S2 h2 => ?_⟩
    rw [(farD_top fine).1] at h2
    obtain ⟨f2, rfl, hf2⟩ := dt_tri h2
    have hf2 : H2 f2 = some (.tup [.int (topOf pl ts).1, .str (S (topOf pl ts).2.1), .str (S (topOf pl ts).2.2)]) := hf2
    refine ⟨1, rfl, f2, _, rfl, SqT.of hf2, cut_fromN (j := 1) (by omega) (by show 1 ≤ 3; omega), fun p2 np2 => ?_⟩
    rw [cut_one]
    have S3 := same_new (o := .tup [.str (S (topOf pl ts).2.1), .str (S (topOf pl ts).2.2)]) S2 np2
    have d2 : Dt (upd H2 p2 (.tup [.str (S (topOf pl ts).2.1), .str (S (topOf pl ts).2.2)])) (.ref p2) (cutP (topOf pl ts)) := dt_cut upd_same
    generalize upd H2 p2 (.tup [.str (S (topOf pl ts).2.1), .str (S (topOf pl ts).2.2)]) = H3 at S3 d2
    have d1 := Dt.keep (TK.of S3) d1
    have X3 := S1.trans S3
    clear S3 S2 S1 h2 hf2 np2
    -- all of them, the middles
    refine ⟨_, rfl, .ref t, pl, ts, rfl, Dt.keep (TK.of X3) hd, fine, fun H4 r4 S4 d4 => ?_⟩
    refine ⟨_, rfl, .ref t, pl, ts, rfl, Dt.keep (TK.of (X3.trans S4)) hd, fine, fun H5 r5 S5 h5 => ?_⟩
    obtain ⟨m8, xs8, rfl, hm8, hx8⟩ := dt_tup h5 fun _ => ⟨_, List.mem_cons_self, fun l z => by cases z⟩
    cases hx8 with
    | cons i1 hx8 =>
    cases hx8 with
    | cons d5 hx8 =>
    cases hx8
    refine ⟨m8, _, 1, _, rfl, rfl, SqT.of hm8, atI_nat (j := 1) rfl, (by show 4 ≤ sizeLine; decide), fun l1 nl1 => ?_⟩
    obtain ⟨H6, e6, S6, g1⟩ := Lq.mk (.cons (.dt (Dt.keep (TK.of (S4.trans S5)) d1)) (.cons (.dt (Dt.keep (TK.of (S4.trans S5)) d2)) (.cons (.dt (Dt.keep (TK.of S5) d4)) (.cons (.dt d5) .nil)))) nl1
    rw [← e6]
    have X6 := X3.trans (S4.trans (S5.trans S6))
    have g1 : Lq _ l1 (fm1 pl ts x) := g1
    clear e6 S6
    clear d1 d2 d4 d5 hm8 h5 i1 nl1 S5 S4 X3
    -- the least sums, the counts
    refine ⟨_, rfl, _, rfl, .ref t, pl, ts, rfl, Dt.keep (TK.of X6) hd, fine, fun H7 r7 S7 d7 => ?_⟩
    refine ⟨_, rfl, .ref t, pl, ts, rfl, Dt.keep (TK.of (X6.trans S7)) hd, fine, fun H8 D s S8 nD perm rise hD => ⟨D, _, rfl, hD, fun l8 nl8 => ?_⟩⟩
    have X8 := same_new (o := .lst ((ikm (dd s) (cntF s)).map (·.2))) S8 nl8
    have d8 : Dq (upd H8 l8 (.lst ((ikm (dd s) (cntF s)).map (·.2)))) (.ref l8) (cntP s) := by
      refine .lst upd_same ?_
      generalize upd H8 l8 (.lst ((ikm (dd s) (cntF s)).map (·.2))) = HH
      unfold ikm
      rw [List.map_map]
      generalize dd s = ns
      induction ns with
      | nil => exact .nil
      | cons n r ih => exact .cons (.dt (.int _)) ih
    generalize upd H8 l8 (.lst ((ikm (dd s) (cntF s)).map (·.2))) = H9 at X8 d8
    have Y9 := X6.trans (S7.trans X8)
    -- the best join
    refine ⟨_, rfl, _, rfl, _, rfl, .ref t, v', pl, pl', ts, ts', k, rfl, Dt.keep (TK.of Y9) hd, Dt.keep (TK.of Y9) hd', fine.ok, l40, l40', hT.ext Y9, dis, fine, fine', fun HF rF bj eF TF flB hF => ?_⟩
    obtain ⟨fF, rfl, hfF⟩ := dt_tri hF
    refine ⟨1, rfl, fF, _, rfl, SqT.of hfF, cut_fromN (j := 1) (by omega) (by show 1 ≤ 3; omega), fun pF npF => ?_⟩
    rw [cut_one]
    have SG := same_new (o := .tup [.str (S bj.2.1), .str (S bj.2.2)]) (Same.refl HF) npF
    have dF : Dt (upd HF pF (.tup [.str (S bj.2.1), .str (S bj.2.2)])) (.ref pF) (cutP bj) := dt_cut upd_same
    generalize upd HF pF (.tup [.str (S bj.2.1), .str (S bj.2.2)]) = HG at SG dF
    refine ⟨(by show 3 ≤ sizeLine; decide), fun l9 nl9 => ?_⟩
    have kk : LK H9 HG := (LK.ofN eF).trans (LK.of SG)
    obtain ⟨HI, eI, SI0, g2⟩ := Lq.mk (.cons (.dt (Dt.keep ((TK.of X8).trans kk.tk) d7)) (.cons (Dq.keep kk d8) (.cons (.dt dF) .nil))) nl9
    rw [← eI]
    have SI := SG.trans SI0
    clear eI SI0
    have g1 := g1.keep ((LK.of (S7.trans X8)).trans ((LK.ofN eF).trans (LK.of SI)))
    have XI : ExtN H HI := fun c o h n => SI c o (eF c o (Y9 c o h) n)
    have TI := TF.ext SI
    refine cat_lq g1 g2 (by show 4 + 3 ≤ 100000; omega) fun l10 HJ SJ g3 => ?_
    have XJ : ExtN H HJ := fun c o h n => SJ c o (XI c o h n)
    have TJ := TI.ext SJ
    have g3 : Lq HJ l10 (fm2 pl ts x s bj) := g3
    clear g1 g2 kk SI SJ XI TI d8 d7 dF SG hfF hF eF TF Y9 X8 S8 S7 X6 hD nl9 npF
    -- the worst join
    refine ⟨_, rfl, _, rfl, _, rfl, _, rfl, .ref t, v', pl, pl', ts, ts', k, rfl, Dt.keep (TK.ofN XJ) hd, Dt.keep (TK.ofN XJ) hd', fine.ok, l40, l40', TJ, dis, fine, fine', fun HF rF wj eF TF flW hF => ?_⟩
    obtain ⟨fF, rfl, hfF⟩ := dt_tri hF
    refine ⟨1, rfl, fF, _, rfl, SqT.of hfF, cut_fromN (j := 1) (by omega) (by show 1 ≤ 3; omega), fun pF npF => ?_⟩
    rw [cut_one]
    have SG := same_new (o := .tup [.str (S wj.2.1), .str (S wj.2.2)]) (Same.refl HF) npF
    have dF : Dt (upd HF pF (.tup [.str (S wj.2.1), .str (S wj.2.2)])) (.ref pF) (cutP wj) := dt_cut upd_same
    generalize upd HF pF (.tup [.str (S wj.2.1), .str (S wj.2.2)]) = HG at SG dF
    have XG : ExtN H HG := fun c o h n => SG c o (eF c o (XJ c o h n) n)
    refine ⟨_, rfl, .ref t, pl, ts, rfl, Dt.keep (TK.ofN XG) hd, fine.len, by have := fine.len; omega, fun HK lv SK nlv hlv => ?_⟩
    have dK : Dt HK (.ref lv) (.tuple ((leavesOf pl ts).map strD)) := .tup hlv (dt_strs _ _)
    refine ⟨(by show 2 ≤ sizeLine; decide), fun l11 nl11 => ?_⟩
    obtain ⟨HI, eI, SI0, g4⟩ := Lq.mk (.cons (.dt (Dt.keep (TK.of SK) dF)) (.cons (.dt dK) .nil)) nl11
    rw [← eI]
    have SI := SG.trans (SK.trans SI0)
    clear eI SI0
    have g3 := g3.keep ((LK.ofN eF).trans (LK.of SI))
    have XI : ExtN H HI := fun c o h n => SI c o (eF c o (XJ c o h n) n)
    have TI := TF.ext SI
    refine cat_lq g3 g4 (by show 7 + 2 ≤ 100000; omega) fun l12 HL SL g5 => ?_
    have XL : ExtN H HL := fun c o h n => SL c o (XI c o h n)
    have TL' := TI.ext SL
    have g5 : Lq HL l12 (fm3 pl ts x s bj wj) := g5
    clear g3 g4 SI SL XI TI dF dK SG hfF hF eF TF XG SK hlv nlv nl11 npF XJ TJ
    -- the change
    refine ⟨fun σ' H' => ∃ v6 : V, σ' = [some (.ref t), some v', some (.int k), some (.str (S x)), some (.ref l12), some v6, none, none] ∧ ExtN HL H' ∧ Tabs TL H' ∧ ((v6 = .non ∧ ts = []) ∨ ∃ (f : Addr) (z : Qua), v6 = .ref f ∧ H' f = some (.tup [.int z.1, .int z.2.1, .str (S z.2.2.1), .str (S z.2.2.2)]) ∧ ts ≠ [] ∧ FLq (allC pl ts ts.length) z), ?_, fun σ' HM hM => ?_⟩
    · refine ⟨_, rfl, .ref t, pl, ts, rfl, Dt.keep (TK.ofN XL) hd, fine, l40, TL', fun tz HN eN TN => ?_, fun HN rN z eN TN flz hN => ?_⟩
      · exact ⟨.non, rfl, eN, TN, .inl ⟨rfl, tz⟩⟩
      · obtain ⟨fz, rfl, hfz⟩ := dt_qua hN
        have tne : ts ≠ [] := fun tz => by
          obtain ⟨i, e, _⟩ := flz
          rw [tz] at e
          cases e
        exact ⟨.ref fz, rfl, eN, TN, .inr ⟨fz, z, rfl, hfz, tne, flz⟩⟩
    · obtain ⟨v6, rfl, eM, TM, ch⟩ := hM
      have XM : ExtN H HM := fun c o h n => eM c o (XL c o h n) n
      have g5 := g5.keep (LK.ofN eM)
      refine ⟨fun σ' H' => ∃ (f : Addr) (c : PyData), σ' = [some (.ref t), some v', some (.int k), some (.str (S x)), some (.ref f), some v6, none, none] ∧ Same HM H' ∧ Lq H' f (fm3 pl ts x s bj wj ++ [c]) ∧ ((ts = [] ∧ c = .none) ∨ ∃ z, FLq (allC pl ts ts.length) z ∧ ts ≠ [] ∧ c = chP z), ?_, fun σ' HP hP => ?_⟩
      · rcases ch with ⟨rfl, tz⟩ | ⟨fz, z, rfl, hfz, tne, flz⟩
        · refine ⟨_, rfl, _, rfl, rfl, _, rfl, iteT ⟨(by show 1 ≤ sizeLine; decide), fun l nl => ?_⟩⟩
          have g6 : Lq _ l [PyData.none] := Lq.new (.cons (.dt .non) .nil) nl
          have Y := same_new (o := .lst [.non]) (Same.refl HM) nl
          refine cat_lq (g5.keep (LK.of Y)) g6 (by show 9 + 1 ≤ 100000; omega) fun l2 HO SO g7 => ?_
          exact ⟨l2, _, rfl, Y.trans SO, g7, .inl ⟨tz, rfl⟩⟩
        · refine ⟨_, rfl, _, rfl, rfl, _, rfl, iteF' (by simp) ⟨_, rfl, 1, rfl, fz, _, rfl, SqT.of hfz, cut_fromN (j := 1) (by omega) (by show 1 ≤ 4; omega), fun p np => ?_⟩⟩
          rw [cut_oneQ]
          refine ⟨(by show 1 ≤ sizeLine; decide), fun l nl => ?_⟩
          have Y1 := same_new (o := .tup [.int z.2.1, .str (S z.2.2.1), .str (S z.2.2.2)]) (Same.refl HM) np
          have dz : Dt (upd HM p (.tup [.int z.2.1, .str (S z.2.2.1), .str (S z.2.2.2)])) (.ref p) (chP z) := .tup upd_same (.cons (.int _) (.cons (.str _) (.cons (.str _) .nil)))
          have g6 := Lq.new (.cons (.dt dz) .nil) nl
          have Y := same_new (o := .lst [.ref p]) Y1 nl
          refine cat_lq (g5.keep (LK.of Y)) g6 (by show 9 + 1 ≤ 100000; omega) fun l2 HO SO g7 => ?_
          exact ⟨l2, _, rfl, Y.trans SO, g7, .inr ⟨z, flz, tne, rfl⟩⟩
      · obtain ⟨f9, c, rfl, SP, g7, hc⟩ := hP
        have XP : ExtN H HP := fun c o h n => SP c o (XM c o h n)
        have TP := TM.ext SP
        -- leaves taken off
        refine ⟨_, rfl, _, rfl, .ref t, pl, ts, rfl, Dt.keep (TK.ofN XP) hd, fine.tree, by have := fine.len; omega, fun HR g us L SR ng hg hU pe l1000 sub => ?_⟩
        have ul := DtAll.len hU
        rw [List.length_map] at ul
        have ylen : ∀ Y ∈ L, Y.2.length ≤ 40 := fun Y hY => by
          obtain ⟨it, sb⟩ := sub Y hY
          have h1 := it.len
          have h2 := nodup_sub_len Y.1 pl it.nodup sb
          omega
        refine ⟨g, rfl, ⟨_, SqL.of hg⟩, fun D nD => ?_⟩
        refine lc_list (K := K) (a := g) (xs := us) (fun i H' => Same HR H' ∧ ∃ ws : List V, H' D = some (.lst ws) ∧ DqAll (wout H' D) ws ((L.take i).map plP)) ⟨same_new (Same.refl _) nD, [], upd_same, .nil⟩ (fun i H' _ hP => SqL.of (hP.1 _ _ hg)) (fun i v2 H' hi hP => ?_) (fun H' hP => ?_)
        · obtain ⟨SM, ws, hD, hW⟩ := hP
          have wl := hW.len
          rw [List.length_map, List.length_take] at wl
          obtain ⟨d, hd2, hx⟩ := DtAll.get hU hi
          rw [List.getElem?_map] at hd2
          cases ee : L[i]? with
          | none => rw [ee] at hd2; cases hd2
          | some Y =>
            rw [ee] at hd2
            have ed : d = treeP Y := (Option.some.inj hd2).symm
            subst ed
            have hY := List.mem_of_getElem? ee
            have yl := ylen Y hY
            obtain ⟨o, oa, ob, ovs, rfl, ho, hoa, hob, hoA⟩ := dt_tree (Dt.keep (TK.of SM) hx)
            have yne : Y.1 ≠ [] := fun z => by
              have := (sub Y hY).1.len
              rw [z] at this
              simp at this
            have ovl : ovs.length = Y.2.length := by
              have := DtAll.len hoA
              rwa [List.length_map] at this
            refine ⟨rfl, _, rfl, o, _, 0, .ref oa, rfl, rfl, SqT.of ho, atI_nat (j := 0) rfl, _, rfl, o, _, 1, .ref ob, rfl, rfl, SqT.of ho, atI_nat (j := 1) rfl, ob, rfl, ⟨_, SqT.of hob⟩, fun D2 nD2 => ?_⟩
            refine lc_tup (K := K) (a := ob) (xs := ovs) (fun j H2 => Same H' H2 ∧ ∃ zs : List V, H2 D2 = some (.lst zs) ∧ DtAll H2 zs ((Y.2.take j).map tiP)) ⟨same_new (Same.refl _) nD2, [], upd_same, .nil⟩ (fun j H2 _ hP => SqT.of (hP.1 _ _ hob)) (fun j v3 H2 hj hP => ?_) (fun H2 hP => ?_)
            · obtain ⟨S2, zs, hD2, hZ⟩ := hP
              have zl := hZ.len
              rw [List.length_map, List.length_take] at zl
              obtain ⟨t3, p3, ht3, rfl, hp3⟩ := tie_at (DtAll.keep (TK.of S2) hoA) hj
              have jl := (List.getElem?_eq_some_iff.mp ht3).1
              refine ⟨rfl, _, rfl, 2, rfl, p3, _, rfl, SqT.of hp3, (fun z => nomatch z.2), fun e ne => ?_⟩
              have ecut : cutV [V.str (S t3.1), .str (S t3.2.1), .int t3.2.2] none (some 2) = [.str (S t3.1), .str (S t3.2.1)] := rfl
              rw [ecut]
              have S3 := same_new (o := .tup [.str (S t3.1), .str (S t3.2.1)]) (Same.refl H2) ne
              have he : (upd H2 e (.tup [.str (S t3.1), .str (S t3.2.1)])) e = some (.tup [.str (S t3.1), .str (S t3.2.1)]) := upd_same
              generalize upd H2 e (.tup [.str (S t3.1), .str (S t3.2.1)]) = H3 at S3 he
              have hD3 := S3 _ _ hD2
              have tk := TK.mut (o := .lst (zs ++ [.ref e])) hD3
              refine ⟨zs, hD3, sz_lt (by omega), same_put (S2.trans S3) nD2, zs ++ [.ref e], upd_same, ?_⟩
              rw [List.take_add_one, ht3, List.map_append]
              exact DtAll.app (DtAll.keep ((TK.of S3).trans tk) hZ) (.cons (.tup (tk.tup _ _ he) (.cons (.str _) (.cons (.str _) .nil))) .nil)
            · obtain ⟨S2, zs, hD2, hZ⟩ := hP
              rw [List.take_of_length_le (by omega)] at hZ
              refine ⟨(by show 2 ≤ sizeLine; decide), fun p np => ?_⟩
              have S3 := same_new (o := .tup [.ref oa, .ref D2]) S2 np
              have hp : (upd H2 p (.tup [.ref oa, .ref D2])) p = some (.tup [.ref oa, .ref D2]) := upd_same
              have hD23 := same_new (o := .tup [.ref oa, .ref D2]) (Same.refl H2) np _ _ hD2
              have hZ3 := DtAll.keep (TK.new (o := .tup [.ref oa, .ref D2]) np) hZ
              have pD : p ≠ D := fun z => by
                have := S2 _ _ hD
                rw [← z, np] at this
                cases this
              generalize upd H2 p (.tup [.ref oa, .ref D2]) = H3 at S3 hp hD23 hZ3
              have hD3 := S3 _ _ hD
              have D2D : D2 ≠ D := fun z => by
                rw [z, hD] at nD2
                cases nD2
              refine ⟨ws, hD3, sz_lt (by omega), same_put (SM.trans S3) nD, ws ++ [.ref p], upd_same, ?_⟩
              rw [wout_upd, List.take_add_one, ee, List.map_append]
              refine DqAll.app (DqAll.keep (LK.of (wout_same S3)) hW) (.cons (.tup (wout_at hp pD) (.cons (.dt ?_) (.cons (.lst (wout_at hD23 D2D) ?_) .nil))) .nil)
              · exact Dt.keep (wout_tk hD3) (names_dt (hoa.same S3) yne)
              · exact DqAll.of (DtAll.keep (wout_tk hD3) hZ3)
        · obtain ⟨SM, ws, hD, hW⟩ := hP
          rw [List.take_of_length_le (by omega)] at hW
          have hW := DqAll.keep (LK.of (wout_to D)) hW
          refine ⟨(by show 1 ≤ sizeLine; decide), fun l nl => ?_⟩
          have g8 := Lq.new (.cons (.lst hD hW) .nil) nl
          have Y := same_new (o := .lst [.ref D]) (SR.trans SM) nl
          refine cat_lq (g7.keep (LK.of Y)) g8 (by show 10 + 1 ≤ 100000; omega) fun l2 HO SO g9 => ?_
          obtain ⟨xs, ha9, hb9⟩ := g9
          exact q HO (.ref l2) _ (fun c o h n => (Y.trans SO) c o (XP c o h n)) (TP.ext (Y.trans SO)) (.lst ha9 hb9) (.mk perm rise flB flW pe sub hc)
end
end Far

namespace Far
open PySem PySem.Spec PyProof.Rows L2
open SX (S)
/-! ### what is told beside, of the tree and of the longer one: the same datum -/
def Lay (n : Nat) (d : PyData) : Prop := PyData.canLay0 d = true ∧ PyData.depth d ≤ n
theorem Lay.mono {n m : Nat} {d : PyData} (h : Lay n d) (l : n ≤ m) : Lay m d := ⟨h.1, Nat.le_trans h.2 l⟩
theorem lay_all {n : Nat} : ∀ {ds : List PyData}, (∀ d ∈ ds, Lay n d) → PyData.canLayAll0 ds = true ∧ PyData.depthAll ds ≤ n
  | [], _ => ⟨rfl, Nat.zero_le _⟩
  | d :: r, h => by
    obtain ⟨a, b⟩ := lay_all fun e he => h e (List.mem_cons_of_mem _ he)
    obtain ⟨c, e⟩ := h d List.mem_cons_self
    refine ⟨?_, ?_⟩
    · show (PyData.canLay0 d && PyData.canLayAll0 r) = true
      rw [c, a]
      rfl
    · show max (PyData.depth d) (PyData.depthAll r) ≤ n
      omega
theorem Lay.tup {n : Nat} {ds : List PyData} (h : ∀ d ∈ ds, Lay n d) : Lay (n + 1) (.tuple ds) := by
  obtain ⟨a, b⟩ := lay_all h
  exact ⟨a, by show PyData.depthAll ds + 1 ≤ n + 1; omega⟩
theorem Lay.lst {n : Nat} {ds : List PyData} (h : ∀ d ∈ ds, Lay n d) : Lay (n + 1) (.list ds) := by
  obtain ⟨a, b⟩ := lay_all h
  exact ⟨a, by show PyData.depthAll ds + 1 ≤ n + 1; omega⟩
theorem Lay.str {n : Nat} {l : Nm} (h : NameOk l) : Lay n (strD l) := ⟨strOk_S h, Nat.zero_le _⟩
theorem Lay.int {n : Nat} (i : Int) : Lay n (.int i) := ⟨rfl, Nat.zero_le _⟩
theorem Lay.non {n : Nat} : Lay n .none := ⟨rfl, Nat.zero_le _⟩
theorem Lay.nms {n : Nat} {ls : List Nm} (h : ∀ l ∈ ls, NameOk l) : Lay (n + 1) (.tuple (ls.map strD)) := .tup fun d hd => by
  obtain ⟨l, hl, rfl⟩ := List.mem_map.mp hd
  exact .str (h l hl)
theorem lay_two {n : Nat} {a b : Nm} (ha : NameOk a) (hb : NameOk b) : Lay (n + 1) (.tuple [strD a, strD b]) := .tup fun d hd => by
  simp only [List.mem_cons, List.not_mem_nil, or_false] at hd
  rcases hd with e | e <;> subst e
  · exact .str ha
  · exact .str hb
theorem joins_names {pl pl' : List Nm} {ts ts' : List Tie} {k : Int} {x : Tri} (h : x ∈ joinsOf pl pl' ts ts' k pl) : x.2.1 ∈ pl ∧ x.2.2 ∈ pl' := by
  unfold joinsOf at h
  obtain ⟨u, hu, h2⟩ := List.mem_flatMap.mp h
  obtain ⟨v, hv, rfl⟩ := List.mem_map.mp h2
  exact ⟨hu, hv⟩
theorem FL.mem {l : List Tri} {f : Tri → Int} {x : Tri} (h : FL l f x) : x ∈ l := by
  obtain ⟨i, e, _⟩ := h
  exact List.mem_of_getElem? e
section
variable {pl pl' : List Nm} {ts ts' : List Tie} {m k : Int} {x : Nm}
theorem head_in (ne : pl ≠ []) : pl.headD [] ∈ pl := by
  cases hp : pl with
  | nil => exact absurd hp ne
  | cons a r => exact List.mem_cons_self
theorem Forms.shaped (F : Fine pl ts) (F' : Fine pl' ts') (hx : x ∈ pl) {d : PyData} (h : Forms pl ts pl' ts' k x d) : SeqAt.shaped d = true := by
  obtain ⟨p, up, fb, fw, pe, sub, ch⟩ := h
  rename_i s b w L c
  refine shaped_of (n := 5) ?_ (by omega)
  show Lay 5 _
  have hm := head_in F.ne
  have ok := F.ok
  have jn : ∀ {y : Tri}, y ∈ joinsOf pl pl' ts ts' k pl → NameOk y.2.1 ∧ NameOk y.2.2 := fun hy => ⟨ok _ (joins_names hy).1, F'.ok _ (joins_names hy).2⟩
  have lb := jn fb.mem
  have lw := jn fw.mem
  obtain ⟨t1, t2, _⟩ := top_in F
  have e1 : ∀ d ∈ fm1 pl ts x, Lay 4 d := fun d hd => by
    unfold fm1 at hd
    simp only [List.mem_cons, List.not_mem_nil, or_false] at hd
    rcases hd with e | e | e | e <;> subst e
    · exact .nms fun l hl => ok l ((F.tree.the_way hm hx).inside (fun e he => ⟨(F.tree.ties e he).1, (F.tree.ties e he).2.1⟩) hm l hl)
    · exact lay_two (ok _ t1) (ok _ t2)
    · refine Lay.mono (n := 2) (.tup fun d hd => ?_) (by omega)
      obtain ⟨y, hy, rfl⟩ := List.mem_map.mp hd
      obtain ⟨a1, a2, _⟩ := mem_pairs (List.mem_filter.mp hy).1
      exact lay_two (ok _ a1) (ok _ a2)
    · exact .nms fun l hl => ok l (List.mem_filter.mp hl).1
  have e2 : ∀ d ∈ fm2 pl ts x s b, Lay 4 d := fun d hd => by
    unfold fm2 at hd
    rcases List.mem_append.mp hd with hd | hd
    · exact e1 d hd
    simp only [List.mem_cons, List.not_mem_nil, or_false] at hd
    rcases hd with e | e | e <;> subst e
    · exact .nms fun l hl => ok l (List.mem_filter.mp hl).1
    · refine Lay.mono (n := 1) (.lst fun d hd => ?_) (by omega)
      obtain ⟨y, hy, rfl⟩ := List.mem_map.mp hd
      exact .int _
    · exact lay_two lb.1 lb.2
  have e3 : ∀ d ∈ fm3 pl ts x s b w, Lay 4 d := fun d hd => by
    unfold fm3 at hd
    rcases List.mem_append.mp hd with hd | hd
    · exact e2 d hd
    simp only [List.mem_cons, List.not_mem_nil, or_false] at hd
    rcases hd with e | e <;> subst e
    · exact lay_two lw.1 lw.2
    · exact .nms fun l hl => ok l (List.mem_filter.mp hl).1
  refine .lst fun d hd => ?_
  unfold fm4 at hd
  rcases List.mem_append.mp hd with hd | hd
  · rcases List.mem_append.mp hd with hd | hd
    · exact e3 d hd
    · rw [List.mem_singleton.mp hd]
      rcases ch with ⟨_, e⟩ | ⟨z, fz, _, e⟩
      · rw [e]
        exact .non
      · rw [e]
        obtain ⟨i, e, y, u, _, rfl, hy, hu, _⟩ := allC_is F.tree fz.mem
        refine Lay.mono (n := 1) (.tup fun d hd => ?_) (by omega)
        simp only [List.mem_cons, List.not_mem_nil, or_false] at hd
        rcases hd with e | e | e <;> subst e
        · exact .int _
        · exact .str (ok _ hy)
        · exact .str (ok _ hu)
  · rw [List.mem_singleton.mp hd]
    refine .lst fun d hd => ?_
    obtain ⟨Y, hY, rfl⟩ := List.mem_map.mp hd
    obtain ⟨it, sb⟩ := sub Y hY
    refine .tup fun d hd => ?_
    simp only [List.mem_cons, List.not_mem_nil, or_false] at hd
    rcases hd with e | e <;> subst e
    · exact .nms fun l hl => ok l (sb l hl)
    · refine .lst fun d hd => ?_
      obtain ⟨e, he, rfl⟩ := List.mem_map.mp hd
      obtain ⟨i1, i2, _⟩ := it.ties e he
      exact lay_two (n := 0) (ok _ (sb _ i1)) (ok _ (sb _ i2))
theorem cnt_tms (m1 : 1 ≤ m) (s : List Int) : cntP (s.map fun y => y * m) = cntP s := by
  unfold cntP
  rw [dd_mul m1, List.map_map]
  refine congrArg PyData.list (List.map_congr_left fun n _ => ?_)
  show PyData.int (((s.map fun y => y * m).countP fun z => z == n * m : Nat) : Int) = _
  rw [List.countP_map]
  have e1 : ((fun z => z == n * m) ∘ fun x => x * m) = fun z : Int => z == n := funext fun x => by
    show (x * m == n * m) = (x == n)
    by_cases c : x = n
    · rw [c, beq_self_eq_true, beq_self_eq_true]
    · rw [beq_false_of_ne c, beq_false_of_ne fun q => c ((eq_tms m1).mp q)]
  rw [e1]
theorem Forms.tms (z : Scl m pl ts) (z' : Scl m pl' ts') (hx : x ∈ pl) {d d' : PyData} (h : Forms pl ts pl' ts' k x d) (h' : Forms pl (ts.map (scl m)) pl' (ts'.map (scl m)) (k * m) x d') : d' = d := by
  obtain ⟨p, up, fb, fw, pe, sub, ch⟩ := h
  obtain ⟨p2, up2, fb2, fw2, pe2, sub2, ch2⟩ := h'
  rename_i s b w L c s2 b2 w2 L2 c2
  have m1 := z.m1
  have js := z.joins z' k pl fun y hy => hy
  rw [js] at fb2 fw2
  have eb : b2 = Far.tms m b := fb2.uni (fb.tms (g := id) fun a b => le_tms m1)
  have ew : w2 = Far.tms m w := fw2.uni (fw.tms (g := fun i => -i) fun a b => by
    show -(a * m) ≤ -(b * m) ↔ -a ≤ -b
    rw [Int.neg_le_neg_iff, Int.neg_le_neg_iff]
    exact le_tms m1)
  have eL : L2 = L.map (sclT m) := pe2.det pe.scl
  have es : s2 = s.map fun y => y * m := by
    refine sorted_one (p2.trans ?_) up2 ?_
    · rw [z.lens]
      exact (p.map _).symm
    · exact List.pairwise_map.mpr (up.imp fun {a b} q => (le_tms m1).mpr q)
  have ec : c2 = c := by
    rcases ch with ⟨t0, c0⟩ | ⟨q, fq, tn, c0⟩
    · rcases ch2 with ⟨_, c1⟩ | ⟨q2, _, tn2, _⟩
      · rw [c0, c1]
      · rw [t0] at tn2
        exact absurd rfl tn2
    · rcases ch2 with ⟨t1, _⟩ | ⟨q2, fq2, _, c1⟩
      · exact absurd (List.map_eq_nil_iff.mp t1) tn
      · rw [List.length_map, z.allC _ (Nat.le_refl _)] at fq2
        rw [c0, c1, fq2.uni (fq.tms m1)]
        rfl
  have hm := head_in z.F.ne
  have e1 : fm1 pl (ts.map (scl m)) x = fm1 pl ts x := by
    unfold fm1
    rw [(z.way hm hx).1, z.top, z.allD, z.mids]
    rfl
  have e2 : fm2 pl (ts.map (scl m)) x s2 b2 = fm2 pl ts x s b := by
    unfold fm2
    rw [e1, z.least, es, cnt_tms m1, eb]
    rfl
  have e3 : fm3 pl (ts.map (scl m)) x s2 b2 w2 = fm3 pl ts x s b w := by
    unfold fm3
    rw [e2, ew, leaves_scl]
    rfl
  have e4 : L2.map plP = L.map plP := by
    rw [eL, List.map_map]
    refine List.map_congr_left fun Y _ => ?_
    show PyData.tuple [.tuple (Y.1.map strD), .list ((Y.2.map (scl m)).map tiP)] = .tuple [.tuple (Y.1.map strD), .list (Y.2.map tiP)]
    rw [List.map_map]
    rfl
  unfold fm4
  rw [e3, ec, e4]
end
end Far

namespace Far
open PySem PySem.Spec PyProof.Rows L2
open LamX (Tabs ExtN)
open SX (S)
/-! ### the law's trees: lengths made 1 to ten -/
def g10 (k : Int) : Int := 1 + k % 10
theorem g10_in (k : Int) : 1 ≤ g10 k ∧ g10 k ≤ 10 := by
  unfold g10
  omega
theorem Grown.up {g : Int → Int} (hg : ∀ k, 1 ≤ g k ∧ g k ≤ 1000000) {os : List Nm} {es : List Tie} (G : Grown os es) : Grown os (es.map (upT g)) := by
  induction G with
  | one a => exact .one a
  | @leaf os es a b k e G ha hb he k1 k2 ih =>
    rw [List.map_append]
    refine .leaf (k := g k) ih ha hb ?_ (hg k).1 (hg k).2
    rcases he with z | z <;> rw [z]
    · exact .inl rfl
    · exact .inr rfl
theorem IsTree.up {g : Int → Int} (hg : ∀ k, 1 ≤ g k ∧ g k ≤ 1000000) {pl : List Nm} {ts : List Tie} (h : IsTree pl ts) : IsTree pl (ts.map (upT g)) := by
  obtain ⟨os, es, G, p, q⟩ := h
  exact ⟨os, es.map (upT g), G.up hg, p, q.map _⟩
theorem up10 {pl : List Nm} {ts : List Tie} (F : Fine pl ts) : Fine pl (ts.map (upT g10)) := ⟨F.tree.up fun k => ⟨(g10_in k).1, by have := (g10_in k).2; omega⟩, F.ok, F.len⟩
theorem scl10 {pl : List Nm} {ts : List Tie} (F : Fine pl ts) {m : Int} (m1 : 1 ≤ m) (m2 : m ≤ 100000) : Scl m pl (ts.map (upT g10)) := ⟨up10 F, m1, fun e he => by
  obtain ⟨e', _, rfl⟩ := List.mem_map.mp he
  have h := g10_in e'.2.2
  have : g10 e'.2.2 * m ≤ 10 * m := Int.mul_le_mul_of_nonneg_right h.2 (by omega)
  show g10 e'.2.2 * m ≤ 1000000
  omega⟩
theorem few_some {pl : List Nm} {ts : List Tie} (F : IsTree pl ts) {L : Int} (hL : 0 ≤ L) : ∃ g, FewIs pl ts L g := by
  have all : ∀ m : Nat, ∃ best, SrAt pl ts L (1 + m) best := by
    intro m
    induction m with
    | zero => exact ⟨none, fun _ o o1 o2 => absurd o2 (by omega), fun B e => by cases e⟩
    | succ m ih =>
      obtain ⟨best, sr⟩ := ih
      by_cases c : Cv pl ts L (gO pl.length (1 + m)) ∧ ∀ B, best = some B → Better (pk (gO pl.length (1 + m)) 0 pl.length) B
      · exact ⟨_, sr.new (by omega) c.1 c.2⟩
      · refine ⟨best, sr.keep fun cv => ?_⟩
        cases best with
        | none => exact absurd ⟨cv, fun B e => by cases e⟩ c
        | some B =>
          refine ⟨B, rfl, fun b => c ⟨cv, fun B' e => ?_⟩⟩
          cases e
          exact b
  obtain ⟨best, sr⟩ := all (2 ^ pl.length - 1)
  have p1 : 1 ≤ 2 ^ pl.length := Nat.one_le_two_pow
  rw [show 1 + (2 ^ pl.length - 1) = 2 ^ pl.length by omega] at sr
  obtain ⟨g, _, f⟩ := sr.done hL F
  exact ⟨g, f⟩
theorem few_names {pl : List Nm} {g : Nat → Bool} : ∀ x ∈ nms pl (pk g 0 pl.length), x ∈ pl := fun x hx => by
  obtain ⟨j, hj, rfl⟩ := List.mem_map.mp hx
  have := (pk_mem.mp hj).1
  exact (nm_mem (by omega)).1
theorem SeedAt.ofN {H H' : Hp} {d : Addr} {n : Nat} (h : SeedAt H d n) (e : ExtN H H') : SeedAt H' d n := by
  obtain ⟨a, f, k, h1, h2⟩ := h
  exact ⟨a, f, k, e _ _ h1 (fun ps z => by cases z), h2⟩
theorem TupAt.nd {H : Hp} {a d : Addr} {xs : List V} {n : Nat} (h : TupAt H a xs) (D : SeedAt H d n) : a ≠ d := by
  obtain ⟨ys, e⟩ := D.lst
  rcases h with h | ⟨o, _, h⟩ <;> exact ne_of h e (by intro z; cases z)
theorem SeedAt.same {H H' : Hp} {d : Addr} {n : Nat} (h : SeedAt H d n) (s : Same H H') : SeedAt H' d n := by
  obtain ⟨a, f, k, h1, h2⟩ := h
  exact ⟨a, f, k, s _ _ h1, h2⟩
theorem Tabs.smx {T : List (Addr × Str)} {H H' : Hp} {d : Addr} {n : Nat} (t : Tabs T H) (D : SeedAt H d n) (s : SmX d H H') : Tabs T H' := fun p hp => by
  obtain ⟨ps, h1, h2, h3⟩ := t p hp
  obtain ⟨xs, e⟩ := D.lst
  refine ⟨ps, s _ _ (ne_of h1 e (by intro z; cases z)) h1, h2, fun pos cv hc => ?_⟩
  obtain ⟨c, e1, e2⟩ := h3 pos cv hc
  exact ⟨c, e1, s _ _ (ne_of e2 e (by intro z; cases z)) e2⟩
theorem dps_I {K : PySem.W.Frag} (H : Hp) : ∀ ns : List Int, DpAll K H (ns.map V.int) (ns.map PyData.int)
  | [] => .nil
  | n :: r => .cons (.int n) (dps_I H r)
theorem shaped_il (ls : List Int) : SeqAt.shaped (.list (ls.map PyData.int)) = true := shaped_of (n := 1) (Lay.lst fun d hd => by
  obtain ⟨i, _, rfl⟩ := List.mem_map.mp hd
  exact .int i) (by omega)
end Far

namespace Far
open PySem PySem.Spec PyProof.Rows L2
open LamX (Tabs ExtN)
open C8 (pss_cut tCut)
open SX (S)
abbrev s_law : Stmt := topS 65
abbrev N_law : List Str := ["script", "deck", "turn", "tree", "length", "times", "others", "place", "more", "far", "lengths", "near", "number", "one", "other"]
theorem sc_law : FnScope N_law ["script"] (defScope s_law) := ⟨rfl, rfl, rfl, by decide +kernel, rfl, by decide +kernel, by decide +kernel⟩
section
variable {P : Program} {w : World} {K : PySem.W.Frag} {mg : Str → Option Value} {base : Heap} {TL : List (Addr × Str)}
def spLawT (K : PySem.W.Frag) (TL : List (Addr × Str)) : Sp := fun vs H Q _ => ∃ (a : Addr) (ns : List Int), vs = [.ref a] ∧ SqL K H a (ns.map V.int) ∧ ns.length ≤ 63 ∧ (∀ z ∈ ns, Builtin.Int.intBits z ≤ 1048576) ∧ Tabs TL H ∧ ∀ H', Q (.bl true) H'
theorem e510 : (10 : Int) ^ (5 : Int).toNat = 100000 := by decide
theorem ok_law {f : Addr} {fd : FuncData} (F : Fun K "law" "law" s_law f fd) (T : Txt35 mg) (C_law_deck : Cal P w K mg base 1 "_law_deck" (spDeck K)) (C_law_draw : Cal P w K mg base 1 "_law_draw" spDraw) (C_law_tree : Cal P w K mg base 3 "_law_tree" spTree) (C_law_drawn : Cal P w K mg base 2 "_law_drawn" spDrawn) (C_law_longer : Cal P w K mg base 1 "_law_longer" spLonger) (C_law_lengths : Cal P w K mg base 7 "_law_lengths" (spLL TL)) (C_law_forms : Cal P w K mg base 7 "_law_forms" (spForms TL)) (C_law_counted_right : Cal P w K mg base 8 "_law_counted_right" (spCntR TL)) (Cfewest_within : Cal P w K mg base 5 "fewest_within" spFew) : FnOk P w K mg base CX0 9 f fd ["script"] (spLawT K TL) := by
  refine F.ok sc_law (fun vs H Q E h => ?_) (fun cdv A outer s H vs Q E hr h => ?_)
  · obtain ⟨a, ns, rfl, _⟩ := h
    rfl
  · obtain ⟨a0, ns, rfl, hS, hl, hb, hT, q⟩ := h
    refine ⟨_, (pss_cons (ps_set (i := 1) sc_law.nd rfl (.inl rfl) (pe_c C_law_deck hr (by decide) rfl (pa_cons (pv 0) pa_nil)))
      (pss_cut (ps_for PassesOwn.never rfl (pi_range1 (by rfl) T.range (pa_cons pe_int pa_nil)) (pg_name (i := 2) sc_law.nd rfl (.inl rfl))
        (pss_cons (ps_set (i := 3) sc_law.nd rfl (.inl rfl) (pe_c C_law_tree hr (by decide) rfl (pa_cons (pv 1) (pa_cons pe_int (pa_cons (pe_lst pa_nil) pa_nil)))))
        (pss_cons (ps_set (i := 3) sc_law.nd rfl (.inl rfl) (pe_tup (pa_cons (pe_ix ix_tup (pv 3) pe_int (fun _ _ => rfl)) (pa_cons (pe_tupleOf (by rfl) T.tuple (pe_lc (own := [("one", 13), ("other", 14), ("length", 4)]) (g := gTup K 3 (gCons (gName 13) (gCons (gName 14) (gCons (gName 4) gNil)))) (tt := tYes) rfl sc_law.nd (pi_tup (pe_ix ix_tup (pv 3) pe_int (fun _ _ => rfl))) (blkOk_by (N := N_law) (sc := defScope s_law) (by decide +kernel)) (fun _ _ _ _ _ => (pg_tup rfl (pgs_cons (pg_name (i := 13) sc_law.nd rfl (.inl rfl)) (pgs_cons (pg_name (i := 14) sc_law.nd rfl (.inl rfl)) (pgs_cons (pg_name (i := 4) sc_law.nd rfl (.inl rfl)) pgs_nil))))) (fun _ _ _ _ _ => pts_nil) (fun _ _ _ _ _ => (pe_tup (pa_cons (pv 13) (pa_cons (pv 14) (pa_cons (pe_op op_add pe_int (pe_op op_mod (pv 4) pe_int)) pa_nil))))))) pa_nil))))
        (pss_cons (ps_set (i := 5) sc_law.nd rfl (.inr rfl) (pe_ix ix_list (pe_lst (pa_cons (pe_op op_add pe_int (pe_c C_law_draw hr (by decide) rfl (pa_cons (pv 1) (pa_cons pe_int pa_nil)))) (pa_cons (pe_op op_add pe_int (pe_c C_law_draw hr (by decide) rfl (pa_cons (pv 1) (pa_cons (pe_op op_pow pe_int pe_int) pa_nil)))) pa_nil))) (pe_c C_law_draw hr (by decide) rfl (pa_cons (pv 1) (pa_cons pe_int pa_nil))) (fun _ _ => rfl)))
        (pss_cons (ps_set (i := 6) sc_law.nd rfl (.inl rfl) (pe_c C_law_tree hr (by decide) rfl (pa_cons (pv 1) (pa_cons pe_int (pa_cons (pe_ix ix_tup (pv 3) pe_int (fun _ _ => rfl)) pa_nil)))))
        (pss_cons (ps_set (i := 6) sc_law.nd rfl (.inl rfl) (pe_tup (pa_cons (pe_ix ix_tup (pv 6) pe_int (fun _ _ => rfl)) (pa_cons (pe_tupleOf (by rfl) T.tuple (pe_lc (own := [("one", 13), ("other", 14), ("length", 4)]) (g := gTup K 3 (gCons (gName 13) (gCons (gName 14) (gCons (gName 4) gNil)))) (tt := tYes) rfl sc_law.nd (pi_tup (pe_ix ix_tup (pv 6) pe_int (fun _ _ => rfl))) (blkOk_by (N := N_law) (sc := defScope s_law) (by decide +kernel)) (fun _ _ _ _ _ => (pg_tup rfl (pgs_cons (pg_name (i := 13) sc_law.nd rfl (.inl rfl)) (pgs_cons (pg_name (i := 14) sc_law.nd rfl (.inl rfl)) (pgs_cons (pg_name (i := 4) sc_law.nd rfl (.inl rfl)) pgs_nil))))) (fun _ _ _ _ _ => pts_nil) (fun _ _ _ _ _ => (pe_tup (pa_cons (pv 13) (pa_cons (pv 14) (pa_cons (pe_op op_add pe_int (pe_op op_mod (pv 4) pe_int)) pa_nil))))))) pa_nil))))
        (pss_cons (ps_set (i := 4) sc_law.nd rfl (.inl rfl) (pe_op op_add pe_int (pe_c C_law_draw hr (by decide) rfl (pa_cons (pv 1) (pa_cons pe_int pa_nil)))))
        (pss_cons (ps_set (i := 7) sc_law.nd rfl (.inl rfl) (pe_c C_law_drawn hr (by decide) rfl (pa_cons (pv 1) (pa_cons (pv 3) pa_nil))))
        (pss_cons (ps_set (i := 8) sc_law.nd rfl (.inl rfl) (pe_c C_law_longer hr (by decide) rfl (pa_cons (pv 3) (pa_cons (pv 5) pa_nil))))
        (pss_cons (ps_set (i := 9) sc_law.nd rfl (.inl rfl) (pe_c C_law_longer hr (by decide) rfl (pa_cons (pv 6) (pa_cons (pv 5) pa_nil))))
        (pss_cons (ps_setLc (i := 10) (own := [("number", 12)]) (g := gName 12) (tt := tYes) rfl sc_law.nd rfl rfl (sw_true rfl rfl rfl (by decide +kernel)) (pi_list (pe_c C_law_lengths hr (by decide) rfl (pa_cons (pv 3) (pa_cons (pv 6) (pa_cons (pv 4) (pa_cons (pv 7) pa_nil)))))) (blkOk_by (N := N_law) (sc := defScope s_law) (by decide +kernel)) (fun _ _ _ _ _ => pg_name (i := 12) sc_law.nd rfl (Or.inl rfl)) (fun _ _ _ _ _ => pts_nil) (fun _ _ _ _ _ => (pe_op op_mul (pv 12) (pv 5))))
        (pss_cut (ps_if (pt_cmpR (op_neD (hd_of hr (by decide))) (pe_c C_law_lengths hr (by decide) rfl (pa_cons (pv 8) (pa_cons (pv 9) (pa_cons (pe_op op_mul (pv 4) (pv 5)) (pa_cons (pv 7) pa_nil))))) (pv 10) (nomark _))
          (pss_one (ps_ret pe_bl))
          pss_nil)
        (pss_cut (ps_if (pt_cmpR (op_neD (hd_of hr (by decide))) (pe_c C_law_forms hr (by decide) rfl (pa_cons (pv 8) (pa_cons (pv 9) (pa_cons (pe_op op_mul (pv 4) (pv 5)) (pa_cons (pv 7) pa_nil))))) (pe_c C_law_forms hr (by decide) rfl (pa_cons (pv 3) (pa_cons (pv 6) (pa_cons (pv 4) (pa_cons (pv 7) pa_nil))))) (nomark _))
          (pss_one (ps_ret pe_bl))
          pss_nil)
        (pss_cut (ps_if (pt_not (pt_val (pe_c C_law_counted_right hr (by decide) rfl (pa_cons (pv 3) (pa_cons (pv 8) (pa_cons (pv 5) (pa_cons (pe_c C_law_draw hr (by decide) rfl (pa_cons (pv 1) (pa_cons pe_int pa_nil))) pa_nil)))))))
          (pss_one (ps_ret pe_bl))
          pss_nil)
        (pss_cons (ps_set (i := 11) sc_law.nd rfl (.inl rfl) (pe_c C_law_draw hr (by decide) rfl (pa_cons (pv 1) (pa_cons pe_int pa_nil))))
        (pss_one (ps_if (PW.pt (pw_and (pt_cmpR op_lt (pe_callB call_len_seq (by rfl) T.len bt_len (pa_cons (pe_ix ix_tup (pv 3) pe_int (fun _ _ => rfl)) pa_nil)) pe_int (nomark _)) (pw_and1 (pt_cmpR (op_neD (hd_of hr (by decide))) (pe_c Cfewest_within hr (by decide) rfl (pa_cons (pv 8) (pa_cons (pe_op op_mul (pv 11) (pv 5)) pa_nil))) (pe_c Cfewest_within hr (by decide) rfl (pa_cons (pv 3) (pa_cons (pv 11) pa_nil))) (nomark _)))))
          (pss_one (ps_ret pe_bl))
          pss_nil)))))))))))))))))
      (pss_one (ps_ret pe_bl)))), ?_⟩
    refine ⟨_, rfl, a0, ns, rfl, hS, hl, hb, fun H0 d S0 d0 D0 => ?_⟩
    refine ⟨fun σ' H' => True, ?_, fun σ' H' hM => q _⟩
    refine ⟨2, rfl, by decide, by decide, for_range (lo := 0) (n := (2 : Int).toNat) (fun i σ' H' => (∃ x3 x4 x5 x6 x7 x8 x9 xA xB xC xD xE xF, σ' = [some (.ref a0), some (.ref d), x3, x4, x5, x6, x7, x8, x9, xA, xB, xC, xD, xE, xF]) ∧ SeedAt H' d (3000 * i) ∧ Tabs TL H') ⟨⟨_, _, _, _, _, _, _, _, _, _, _, _, _, rfl⟩, D0, hT.ext S0⟩ (fun i σ' H' hi hP => ?_) (fun σ' H' hP => trivial)⟩
    obtain ⟨⟨x3, x4, x5, x6, x7, x8, x9, xA, xB, xC, xD, xE, xF, rfl⟩, D1, T1⟩ := hP
    have hi : i < 2 := hi
    -- the tree
    refine ⟨_, rfl, Nat.zero_le _, fun p2 np2 => ?_⟩
    refine ⟨d, p2, _, 16, [], rfl, D1.new np2, by omega, by omega, by omega, D1.nd np2, .inl upd_same, by decide, fun H3 t pl ts0 it ok un pll hd hz S3 D3 => ?_⟩
    have T3 := Far.Tabs.smx (T1.ext (same_new (o := .lst []) (Same.refl _) np2)) (D1.new np2) S3
    generalize upd H' p2 (.lst []) = HX at S3
    have fine0 : Fine pl ts0 := ⟨it, ok, by omega⟩
    obtain ⟨tq, a, b, vs, e1, ht, ha, hb', hA⟩ := dt_tree hd
    cases e1
    have tl := it.len
    have vl : vs.length = ts0.length := by
      have := DtAll.len hA
      rwa [List.length_map] at this
    -- its lengths
    refine ⟨_, rfl, t, _, 0, .ref a, rfl, rfl, SqT.of ht, atI_nat (j := 0) rfl, _, rfl, t, _, 1, .ref b, rfl, rfl, SqT.of ht, atI_nat (j := 1) rfl, b, rfl, ⟨_, SqT.of hb'⟩, fun D nD => ?_⟩
    refine lc_tup (K := K) (a := b) (xs := vs) (fun j H2 => Same H3 H2 ∧ ∃ ws : List V, H2 D = some (.lst ws) ∧ DtAll H2 ws ((ts0.take j).map fun e => tieD (upT g10 e))) ⟨same_new (Same.refl _) nD, [], upd_same, .nil⟩ (fun j H2 _ hP => SqT.of (hP.1 _ _ hb')) (fun j v H2 hj hP => ?_) (fun H2 hP => ?_)
    · obtain ⟨SM, ws, hD, hW⟩ := hP
      obtain ⟨e, p3, he, rfl, hp3⟩ := tie_at (DtAll.keep (TK.of SM) hA) hj
      have jl := (List.getElem?_eq_some_iff.mp he).1
      have wl := DtAll.len hW
      rw [List.length_map, List.length_take] at wl
      refine ⟨p3, _, rfl, SqT.of hp3, rfl, _, _, rfl, _, _, rfl, _, _, rfl, rfl, rfl, _, rfl, _, rfl, _, rfl, _, _, rfl, rfl, (by show (0 : Int) < 10; decide), _, _, rfl, rfl, (by show 3 ≤ sizeLine; decide), fun o no => ?_⟩
      have X1 := same_new (o := .tup [.str (S e.1), .str (S e.2.1), .int (1 + e.2.2 % 10)]) (Same.refl H2) no
      have hD1 := X1 _ _ hD
      have hW1 := DtAll.keep (TK.of X1) hW
      have ho : (upd H2 o (.tup [.str (S e.1), .str (S e.2.1), .int (1 + e.2.2 % 10)])) o = some (.tup [.str (S e.1), .str (S e.2.1), .int (1 + e.2.2 % 10)]) := upd_same
      dsimp only
      generalize upd H2 o (.tup [.str (S e.1), .str (S e.2.1), .int (1 + e.2.2 % 10)]) = H5 at X1 hD1 hW1 ho
      have tk := TK.mut (o := .lst (ws ++ [.ref o])) hD1
      refine ⟨ws, hD1, sz_lt (by omega), same_put (SM.trans X1) nD, ws ++ [.ref o], upd_same, ?_⟩
      rw [List.take_add_one, he, List.map_append]
      exact DtAll.app (DtAll.keep tk hW1) (.cons (.tup (tk.tup _ _ ho) (.cons (.str _) (.cons (.str _) (.cons (.int _) .nil)))) .nil)
    obtain ⟨SM, ws, hD, hW⟩ := hP
    rw [List.take_of_length_le (by omega)] at hW
    refine .inl ⟨D, _, rfl, SqL.of hD, fun g ng => ?_⟩
    refine ⟨(by show 2 ≤ sizeLine; decide), fun r nr => ?_⟩
    have X4 := same_new (o := .tup [.ref a, .ref g]) (same_new (o := .tup ws) SM ng) nr
    have hd4 : Dt (upd (upd H2 g (.tup ws)) r (.tup [.ref a, .ref g])) (.ref r) (treeD pl (ts0.map (upT g10))) := by
      have k2 := (TK.new (o := .tup ws) ng).trans (TK.new (o := .tup [.ref a, .ref g]) nr)
      have hg := (TK.new (o := .tup [.ref a, .ref g]) nr).tup g ws upd_same
      refine .tup upd_same (.cons (names_dt (ha.same X4) fine0.ne) (.cons (.tup hg ?_) .nil))
      rw [List.map_map]
      exact DtAll.keep k2 hW
    have hz4 : PlZ (upd (upd H2 g (.tup ws)) r (.tup [.ref a, .ref g])) (.ref r) pl := by
      obtain ⟨t', a', b', o, e, ht', od, haz⟩ := hz
      cases e
      have e2 : (HO.tup [V.ref a, V.ref b]) = .tup [.ref a', .ref b'] := Option.some.inj (ht.symm.trans ht')
      cases e2
      exact ⟨r, a, g, o, rfl, upd_same, od, X4 _ _ haz⟩
    have hr4 : (upd (upd H2 g (.tup ws)) r (.tup [.ref a, .ref g])) r = some (.tup [.ref a, .ref g]) := upd_same
    have ha4 := ha.same X4
    have D4 := D3.same X4
    have T4 := T3.ext X4
    generalize upd (upd H2 g (.tup ws)) r (.tup [.ref a, .ref g]) = H4 at hd4 hz4 hr4 ha4 D4 T4
    clear hW hD X4 SM hA hb' ht hz hd S3
    -- how many times
    refine ⟨_, rfl, d, _, 9, rfl, D4, by omega, by decide, by decide, fun H5 r5 r50 r51 S5 D5 => ⟨_, _, rfl, rfl, ?_⟩⟩
    refine ⟨_, rfl, _, _, rfl, rfl, ⟨by decide, by decide, by decide⟩, d, _, _, rfl, D5, by omega, by decide, by decide, fun H6 r6 r60 r61 S6 D6 => ⟨_, _, rfl, rfl, ?_⟩⟩
    rw [e510] at r61
    refine ⟨(by show 2 ≤ sizeLine; decide), fun p7 np7 => ?_⟩
    refine ⟨_, rfl, d, _, 2, rfl, D6.new np7, by omega, by decide, by decide, fun H8 r8 r80 r81 S8 D8 => ?_⟩
    have hp8 := S8 p7 _ (D6.nd np7) upd_same
    obtain ⟨vm, hv8, mv⟩ := atI_in (xs := [V.int (1 + r5), .int (1 + r6)]) r80 (by simpa using r81)
    obtain ⟨m, rfl, m1, m2⟩ : ∃ m : Int, vm = .int m ∧ 1 ≤ m ∧ m ≤ 100000 := by
      simp only [List.mem_cons, List.not_mem_nil, or_false] at mv
      rcases mv with e | e
      · exact ⟨_, e, by omega, by omega⟩
      · exact ⟨_, e, by omega, by omega⟩
    refine ⟨p7, _, r8, _, rfl, rfl, SqL.of hp8, hv8, ?_⟩
    have SX8 : SmX d H4 H8 := ((S5.trans S6).new np7).trans S8
    have T8 := Far.Tabs.smx ((Far.Tabs.smx (Far.Tabs.smx T4 D4 S5) D5 S6).ext (same_new (o := .lst [.int (1 + r5), .int (1 + r6)]) (Same.refl _) np7)) (D6.new np7) S8
    have k8 := D4.tk SX8
    have hd8 := Dt.keep k8 hd4
    have hz8 := hz4.keep k8
    have hr8 := k8.tup _ _ hr4
    have ha8 := ha4.tk k8
    clear hp8 hv8 SX8 T4 S5 S6 S8 D5 D6 hd4 hz4 hr4 ha4 k8
    have fine := up10 fine0
    have z := scl10 fine0 m1 m2
    generalize ts0.map (upT g10) = ts at hd8 hz8 fine z
    -- the others
    refine ⟨_, rfl, _, rfl, r, _, 0, .ref a, rfl, rfl, SqT.of hr8, atI_nat (j := 0) rfl, ?_⟩
    refine ⟨d, a, _, 5, pl, rfl, D8, by omega, by omega, by omega, ha8.nd D8, .inr ha8, by omega, fun H9 u pl' us0 it' ok' un' pll' he hy S9 D9 => ?_⟩
    have T9 := Far.Tabs.smx T8 D8 S9
    have k9 := D8.tk S9
    have hd9 := Dt.keep k9 hd8
    have hz9 := hz8.keep k9
    have hr9 := k9.tup _ _ hr8
    have ha9 := ha8.tk k9
    have fine0' : Fine pl' us0 := ⟨it', ok', by omega⟩
    have dis : ∀ y ∈ pl, y ∉ pl' := fun y h1 h2 => un' y h2 h1
    obtain ⟨uq, a', b', vs', e1, hu, hau, hbu, hB⟩ := dt_tree he
    cases e1
    have tl' := it'.len
    have vl' : vs'.length = us0.length := by
      have := DtAll.len hB
      rwa [List.length_map] at this
    refine ⟨_, rfl, u, _, 0, .ref a', rfl, rfl, SqT.of hu, atI_nat (j := 0) rfl, _, rfl, u, _, 1, .ref b', rfl, rfl, SqT.of hu, atI_nat (j := 1) rfl, b', rfl, ⟨_, SqT.of hbu⟩, fun D nD => ?_⟩
    refine lc_tup (K := K) (a := b') (xs := vs') (fun j H2 => Same H9 H2 ∧ ∃ ws : List V, H2 D = some (.lst ws) ∧ DtAll H2 ws ((us0.take j).map fun e => tieD (upT g10 e))) ⟨same_new (Same.refl _) nD, [], upd_same, .nil⟩ (fun j H2 _ hP => SqT.of (hP.1 _ _ hbu)) (fun j v H2 hj hP => ?_) (fun H2 hP => ?_)
    · obtain ⟨SM, ws, hD, hW⟩ := hP
      obtain ⟨e, p3, he, rfl, hp3⟩ := tie_at (DtAll.keep (TK.of SM) hB) hj
      have jl := (List.getElem?_eq_some_iff.mp he).1
      have wl := DtAll.len hW
      rw [List.length_map, List.length_take] at wl
      refine ⟨p3, _, rfl, SqT.of hp3, rfl, _, _, rfl, _, _, rfl, _, _, rfl, rfl, rfl, _, rfl, _, rfl, _, rfl, _, _, rfl, rfl, (by show (0 : Int) < 10; decide), _, _, rfl, rfl, (by show 3 ≤ sizeLine; decide), fun o no => ?_⟩
      have X1 := same_new (o := .tup [.str (S e.1), .str (S e.2.1), .int (1 + e.2.2 % 10)]) (Same.refl H2) no
      have hD1 := X1 _ _ hD
      have hW1 := DtAll.keep (TK.of X1) hW
      have ho : (upd H2 o (.tup [.str (S e.1), .str (S e.2.1), .int (1 + e.2.2 % 10)])) o = some (.tup [.str (S e.1), .str (S e.2.1), .int (1 + e.2.2 % 10)]) := upd_same
      dsimp only
      generalize upd H2 o (.tup [.str (S e.1), .str (S e.2.1), .int (1 + e.2.2 % 10)]) = H5 at X1 hD1 hW1 ho
      have tk := TK.mut (o := .lst (ws ++ [.ref o])) hD1
      refine ⟨ws, hD1, sz_lt (by omega), same_put (SM.trans X1) nD, ws ++ [.ref o], upd_same, ?_⟩
      rw [List.take_add_one, he, List.map_append]
      exact DtAll.app (DtAll.keep tk hW1) (.cons (.tup (tk.tup _ _ ho) (.cons (.str _) (.cons (.str _) (.cons (.int _) .nil)))) .nil)
    obtain ⟨SM, ws, hD, hW⟩ := hP
    rw [List.take_of_length_le (by omega)] at hW
    refine .inl ⟨D, _, rfl, SqL.of hD, fun g' ng => ?_⟩
    refine ⟨(by show 2 ≤ sizeLine; decide), fun r' nr => ?_⟩
    have X4 := same_new (o := .tup [.ref a', .ref g']) (same_new (o := .tup ws) SM ng) nr
    have he4 : Dt (upd (upd H2 g' (.tup ws)) r' (.tup [.ref a', .ref g'])) (.ref r') (treeD pl' (us0.map (upT g10))) := by
      have k2 := (TK.new (o := .tup ws) ng).trans (TK.new (o := .tup [.ref a', .ref g']) nr)
      have hg := (TK.new (o := .tup [.ref a', .ref g']) nr).tup g' ws upd_same
      refine .tup upd_same (.cons (names_dt (hau.same X4) fine0'.ne) (.cons (.tup hg ?_) .nil))
      rw [List.map_map]
      exact DtAll.keep k2 hW
    have hy4 : PlZ (upd (upd H2 g' (.tup ws)) r' (.tup [.ref a', .ref g'])) (.ref r') pl' := by
      obtain ⟨t', a1, b1, o, e, ht', od, haz⟩ := hy
      cases e
      have e2 : (HO.tup [V.ref a', V.ref b']) = .tup [.ref a1, .ref b1] := Option.some.inj (hu.symm.trans ht')
      cases e2
      exact ⟨r', a', g', o, rfl, upd_same, od, X4 _ _ haz⟩
    have k4 := TK.of X4
    have DA := D9.same X4
    have TA := T9.ext X4
    have hdA := Dt.keep k4 hd9
    have hzA := hz9.keep k4
    have hrA := k4.tup _ _ hr9
    have haA := ha9.tk k4
    generalize upd (upd H2 g' (.tup ws)) r' (.tup [.ref a', .ref g']) = HA at he4 hy4 DA TA hdA hzA hrA haA
    have fine' := up10 fine0'
    have z' := scl10 fine0' m1 m2
    generalize us0.map (upT g10) = us at he4 hy4 fine' z'
    clear hW hD X4 SM hB hbu hu hy he S9 k4 hd8 hz8 hr8 ha8 hd9 hz9 hr9 ha9 k9 T8 T9 D8 D9
    -- a length, a place
    refine ⟨_, rfl, d, _, 10, rfl, DA, by omega, by decide, by decide, fun HB rB rB0 rB1 SB DB => ⟨_, _, rfl, rfl, ?_⟩⟩
    have TB := Far.Tabs.smx TA DA SB
    have kB := DA.tk SB
    refine ⟨_, rfl, _, rfl, d, .ref r, _, pl, ts, rfl, DB, by omega, Dt.keep kB hdA, fine.ne, fine.len, fun HC x mx SC DC => ?_⟩
    have TC := Far.Tabs.smx TB DB SC
    have kC := kB.trans (DB.tk SC)
    -- the longer ones
    refine ⟨_, rfl, _, rfl, .ref r, pl, ts, m, rfl, Dt.keep kC hdA, hzA.keep kC, fine, fun HD vm SD hm hmz => ?_⟩
    have kD := kC.trans (TK.of SD)
    refine ⟨_, rfl, _, rfl, .ref r', pl', us, m, rfl, Dt.keep kD he4, hy4.keep kD, fine', fun HE vf SE hf hfz => ?_⟩
    have kE := kD.trans (TK.of SE)
    have DE := (DC.same SD).same SE
    have TE := (TC.ext SD).ext SE
    have hd := Dt.keep kE hdA
    have hz := hzA.keep kE
    have he := Dt.keep kE he4
    have hm := Dt.keep (TK.of SE) hm
    have hmz := hmz.same SE
    have hrE := kE.tup _ _ hrA
    have haE := haA.tk kE
    clear hdA hzA he4 hy4 kB kC kD kE SB SC SD SE TA TB TC DA DB DC hrA haA hfz
    -- the lengths, so many times
    have l40 : pl.length ≤ 40 := by omega
    have l40' : pl'.length ≤ 40 := by omega
    refine ⟨_, rfl, _, rfl, _, rfl, _, rfl, .ref r, .ref r', pl, pl', ts, us, 1 + rB, x, rfl, hd, he, fine, fine', dis, mx, l40, l40', TE, fun HF l0 ls eF TF hl0 lens lsl => ⟨l0, rfl, ⟨_, SqL.of hl0⟩, fun D nD => ?_⟩⟩
    refine lc_list (K := K) (a := l0) (xs := ls.map V.int) (fun j H2 => Same HF H2 ∧ H2 D = some (.lst (((ls.take j).map fun y => y * m).map V.int))) ⟨same_new (Same.refl _) nD, upd_same⟩ (fun j H2 _ hP => SqL.of (hP.1 _ _ hl0)) (fun j v H2 hj hP => ?_) (fun HG hP => ?_)
    · obtain ⟨SM, hD⟩ := hP
      rw [List.getElem?_map] at hj
      cases ee : ls[j]? with
      | none => rw [ee] at hj; cases hj
      | some y =>
        rw [ee] at hj
        cases Option.some.inj hj
        have jl := (List.getElem?_eq_some_iff.mp ee).1
        refine ⟨rfl, _, rfl, _, rfl, _, _, rfl, rfl, .inr ⟨by omega, by omega⟩, _, hD, by rw [List.length_map, List.length_map, List.length_take]; exact sz_lt (by omega), same_put SM nD, ?_⟩
        rw [upd_same, List.take_add_one, ee, List.map_append, List.map_append]
        rfl
    obtain ⟨SG, hD⟩ := hP
    rw [List.length_map, List.take_length] at hD
    have EG : ExtN HE HG := fun c o h n => SG c o (eF c o h n)
    have TG := TF.ext SG
    have DG := DE.ofN EG
    have kG := TK.ofN EG
    have km1 : (1 : Int) ≤ 1 + rB ∧ 1 + rB ≤ 10 := by omega
    -- the lengths of the longer ones
    refine ⟨fun σ' H' => σ' = [some (.ref a0), some (.ref d), some (.int (0 + (i : Int))), some (.ref r), some (.int (1 + rB)), some (.int m), some (.ref r'), some (.str (S x)), some vm, some vf, some (.ref D), xC, xD, xE, xF] ∧ ExtN HG H' ∧ Tabs TL H', ?_, fun σ' HH hM => ?_⟩
    · refine ⟨_, rfl, _, rfl, _, rfl, _, rfl, _, _, rfl, rfl, .inr ⟨by omega, by omega⟩, _, rfl, vm, vf, pl, pl', _, _, (1 + rB) * m, x, rfl, Dt.keep kG hm, Dt.keep kG hf, z.fine, z'.fine, dis, mx, l40, l40', TG, fun HH l2 ls2 eH TH hl2 lens2 _ => ?_⟩
      have el := Lens.tms z z' mx lens lens2
      subst el
      have sh := shaped_il (ls.map fun y => y * m)
      refine ⟨_, rfl, _, _, .lst (SqL.of hl2) (dps_I _ _), .lst (SqL.of (eH _ _ hD (fun ps z => by cases z))) (dps_I _ _), sh, sh, _, rfl, ?_⟩
      rw [eqv_same sh]
      exact iteF ⟨rfl, eH, TH⟩
    obtain ⟨rfl, EH, TH⟩ := hM
    have E2 : ExtN HE HH := fun c o h n => EH c o (EG c o h n) n
    -- the rest that is told
    refine ⟨fun σ' H' => σ' = [some (.ref a0), some (.ref d), some (.int (0 + (i : Int))), some (.ref r), some (.int (1 + rB)), some (.int m), some (.ref r'), some (.str (S x)), some vm, some vf, some (.ref D), xC, xD, xE, xF] ∧ ExtN HE H' ∧ Tabs TL H', ?_, fun σ' HI hM => ?_⟩
    · have k2 := TK.ofN E2
      refine ⟨_, rfl, _, rfl, _, rfl, _, rfl, _, _, rfl, rfl, .inr ⟨by omega, by omega⟩, _, rfl, vm, vf, pl, pl', _, _, (1 + rB) * m, x, rfl, Dt.keep k2 hm, Dt.keep k2 hf, z.fine, z'.fine, dis, mx, l40, l40', TH, fun HI v1 d1 eI TI hv1 fm1 => ?_⟩
      have E3 : ExtN HE HI := fun c o h n => eI c o (E2 c o h n) n
      have k3 := TK.ofN E3
      refine ⟨_, rfl, _, rfl, _, rfl, _, rfl, .ref r, .ref r', pl, pl', ts, us, 1 + rB, x, rfl, Dt.keep k3 hd, Dt.keep k3 he, fine, fine', dis, mx, l40, l40', TI, fun HJ v2 d2 eJ TJ hv2 fm2 => ?_⟩
      have ed := Forms.tms z z' mx fm2 fm1
      subst ed
      have sh := fm2.shaped fine fine' mx
      refine ⟨_, _, Dq.dp (Dq.keep (LK.ofN eJ) hv1), Dq.dp hv2, sh, sh, _, rfl, ?_⟩
      rw [eqv_same sh]
      exact iteF ⟨rfl, fun c o h n => eJ c o (E3 c o h n) n, TJ⟩
    obtain ⟨rfl, EI, TI⟩ := hM
    have DI := DE.ofN EI
    have kI := TK.ofN EI
    -- the so manieth, the counts, the middle
    refine ⟨fun σ' H' => σ' = [some (.ref a0), some (.ref d), some (.int (0 + (i : Int))), some (.ref r), some (.int (1 + rB)), some (.int m), some (.ref r'), some (.str (S x)), some vm, some vf, some (.ref D), xC, xD, xE, xF] ∧ TK HE H' ∧ SeedAt H' d (3000 * i + 2900) ∧ Tabs TL H', ?_, fun σ' HJ hM => ?_⟩
    · refine ⟨_, rfl, _, rfl, _, rfl, _, rfl, d, _, 130, rfl, DI, by omega, by decide, by decide, fun HJ rJ rJ0 rJ1 SJ DJ => ?_⟩
      have kJ := kI.trans (DI.tk SJ)
      refine ⟨.ref r, vm, pl, ts, m, rJ, rfl, Dt.keep kJ hd, Dt.keep kJ hm, hz.keep kJ, hmz.keep kJ, z, by omega, Far.Tabs.smx TI DI SJ, fun HK EK TK' => ⟨_, rfl, iteF ?_⟩⟩
      exact ⟨rfl, kJ.trans (TK.ofN EK), (DJ.ofN EK).mono (by omega), TK'⟩
    obtain ⟨rfl, kJ, DJ, TJ⟩ := hM
    -- fewest places so near
    refine ⟨_, rfl, d, _, 20, rfl, DJ, by omega, by decide, by decide, fun HK rK rK0 rK1 SK DK => ?_⟩
    have kK := kJ.trans (DJ.tk SK)
    have TK' := Far.Tabs.smx TJ DJ SK
    have fin : ∀ H', TK HK H' → SeedAt H' d (3000 * i + 2901) → Tabs TL H' → (∃ x3 x4 x5 x6 x7 x8 x9 xA xB xC' xD' xE' xF', ([some (.ref a0), some (.ref d), some (.int (0 + (i : Int))), some (.ref r), some (.int (1 + rB)), some (.int m), some (.ref r'), some (.str (S x)), some vm, some vf, some (.ref D), some (.int rK), xD, xE, xF] : L2.St) = [some (.ref a0), some (.ref d), x3, x4, x5, x6, x7, x8, x9, xA, xB, xC', xD', xE', xF']) ∧ SeedAt H' d (3000 * (i + 1)) ∧ Tabs TL H' := fun H' _ h2 h3 => ⟨⟨_, _, _, _, _, _, _, _, _, _, _, _, _, rfl⟩, h2.mono (by omega), h3⟩
    have L0 : 0 ≤ rK * m := Int.mul_nonneg rK0 (by omega)
    obtain ⟨gf, few⟩ := few_some (L := rK) fine.tree rK0
    refine ⟨_, rfl, r, _, 0, .ref a, rfl, rfl, SqT.of (kK.tup _ _ hrE), atI_nat (j := 0) rfl, a, _, rfl, .inr (haE.tk kK).sq, _, _, rfl, rfl, _, rfl, ?_⟩
    refine ite2 (fun _ => ?_) (fun _ => ?_)
    · refine ⟨_, rfl, _, rfl, _, rfl, _, _, rfl, rfl, .inr ⟨by omega, by omega⟩, vm, pl, _, rK * m, gf, rfl, Dt.keep kK hm, z.fine, L0, z.few few, fun HL q1 SL nq1 hq1 => ?_⟩
      have kL := kK.trans (TK.of SL)
      refine ⟨_, rfl, _, rfl, .ref r, pl, ts, rK, gf, rfl, Dt.keep kL hd, fine, rK0, few, fun HM q2 SM nq2 hq2 => ?_⟩
      have sh : SeqAt.shaped (.tuple ((nms pl (pk gf 0 pl.length)).map strD)) = true := shaped_nms fun l hl => fine.ok l (few_names l hl)
      have w1 : Dt HM (.ref q1) (.tuple ((nms pl (pk gf 0 pl.length)).map strD)) := .tup (SM _ _ hq1) (dt_strs _ _)
      have w2 : Dt HM (.ref q2) (.tuple ((nms pl (pk gf 0 pl.length)).map strD)) := .tup hq2 (dt_strs _ _)
      refine ⟨_, _, Dt.dp w1, Dt.dp w2, sh, sh, _, rfl, ?_⟩
      rw [eqv_same sh]
      have SS := SL.trans SM
      exact iteF (fin HM (TK.of SS) ((DK.same SS).mono (by omega)) (TK'.ext SS))
    · exact iteF (fin HK (TK.refl _) (DK.mono (by omega)) TK')
end
end Far

namespace Far
open PySem PySem.Spec PyProof.Rows L2
/-- the tables of the four that make lambdas -/
def TL4 (b w c n : Addr) : List (Addr × Str) := [(b, qB), (w, qW), (c, qC), (n, qLam)]
theorem tl4 {b w c n : Addr} (h1 : b ≠ w) (h2 : b ≠ c) (h3 : b ≠ n) (h4 : w ≠ c) (h5 : w ≠ n) (h6 : c ≠ n) : ((b, qB) ∈ TL4 b w c n ∧ (w, qW) ∈ TL4 b w c n ∧ (c, qC) ∈ TL4 b w c n ∧ (n, qLam) ∈ TL4 b w c n) ∧ (∀ p ∈ TL4 b w c n, p.1 = b → p.2 = qB) ∧ (∀ p ∈ TL4 b w c n, p.1 = w → p.2 = qW) ∧ (∀ p ∈ TL4 b w c n, p.1 = c → p.2 = qC) ∧ ∀ p ∈ TL4 b w c n, p.1 = n → p.2 = qLam := by
  have mem : ∀ p : Addr × Str, p ∈ TL4 b w c n ↔ p = (b, qB) ∨ p = (w, qW) ∨ p = (c, qC) ∨ p = (n, qLam) := fun p => by
    unfold TL4
    simp only [List.mem_cons, List.not_mem_nil, or_false]
  refine ⟨⟨(mem _).mpr (.inl rfl), (mem _).mpr (.inr (.inl rfl)), (mem _).mpr (.inr (.inr (.inl rfl))), (mem _).mpr (.inr (.inr (.inr rfl)))⟩, fun p hp e => ?_, fun p hp e => ?_, fun p hp e => ?_, fun p hp e => ?_⟩ <;> rcases (mem p).mp hp with z | z | z | z <;> subst z
  · rfl
  · exact absurd e.symm h1
  · exact absurd e.symm h2
  · exact absurd e.symm h3
  · exact absurd e h1
  · rfl
  · exact absurd e.symm h4
  · exact absurd e.symm h5
  · exact absurd e h2
  · exact absurd e h4
  · rfl
  · exact absurd e.symm h6
  · exact absurd e h3
  · exact absurd e h5
  · exact absurd e h6
  · rfl
end Far

namespace Far
open PySem PySem.Spec PyProof.Rows L2
theorem kit_own {K : PySem.W.Frag} {t : Value} {C : Addr} {b : Bool} {cd : ClassData} (ne : (t == Value.ref C) = false) (h1 : PySem.W.clsIn K C = some cd) (h2 : PySem.W.typeIn K (.ref C) = some (.type "type")) (h3 : PySem.W.subIn K t (.ref C) = some b) : PySem.W.kitOne K t (.ref C) = some b := by
  unfold PySem.W.kitOne PySem.W.kitCls
  rw [if_neg (by rw [ne]; decide)]
  show (if ((PySem.W.clsIn K C).isSome && PySem.W.typeIn K (.ref C) == some (.type "type")) = true then PySem.W.subIn K t (.ref C) else none) = some b
  rw [if_pos (by rw [h1, h2]; rfl)]
  exact h3
theorem kit_ve {K : PySem.W.Frag} {a : Addr} (h : PySem.W.subIn K (.ref a) (.type "ValueError") = some true) : PySem.W.kitOne K (.ref a) (.type "ValueError") = some true := by
  unfold PySem.W.kitOne PySem.W.kitCls
  rw [if_neg (by show ¬ (Value.ref a == Value.type "ValueError") = true; intro z; cases (eq_of_beq z))]
  show (if PySem.W.kitMeta "ValueError" = true then PySem.W.subIn K (.ref a) (.type "ValueError") else none) = some true
  rw [if_pos (by decide +kernel)]
  exact h
theorem exm_own {K : PySem.W.Frag} {t : Value} {C : Addr} {b : Bool} {cd : ClassData} (h0 : PySem.W.subIn K (.ref C) (.type "BaseException") = some true) (h1 : PySem.W.clsIn K C = some cd) (h2 : PySem.W.typeIn K (.ref C) = some (.type "type")) (h3 : PySem.W.subIn K t (.ref C) = some b) : PySem.W.exmOne K t (.ref C) = some b := by
  unfold PySem.W.exmOne PySem.W.kitCls
  rw [if_pos (by rw [h0]; rfl)]
  show (if ((PySem.W.clsIn K C).isSome && PySem.W.typeIn K (.ref C) == some (.type "type")) = true then PySem.W.subIn K t (.ref C) else none) = some b
  rw [if_pos (by rw [h1, h2]; rfl)]
  exact h3
open LamX in
/-- the end where several defs' code objects have tables -/
theorem walk_nmN {l : PySem.W.OpenLaw} {q : Program} {loose : List Str} {XP : (Str → Option Value) → Heap → Prop} {YP : World → Heap → Prop} {d dB dW dC dN : DefRec} {K : Params → PySem.W.Frag} {k : Nat} {x nB nW nC nN : Str} (room : Room k callerA) (most : l.most = some 63) (nodef : d.params.defaults = [])
    (foundB : (recsOf q).find? (fun e => e.name == nB) = some dB) (foundW : (recsOf q).find? (fun e => e.name == nW) = some dW) (foundC : (recsOf q).find? (fun e => e.name == nC) = some dC) (foundN : (recsOf q).find? (fun e => e.name == nN) = some dN) (inK : ∀ w h, YP w h → (K w.params).In h)
    (F : ∀ (w : World) (mg : Str → Option Value) (fa : Addr) (h : Heap), (K w.params).In h → h.Ns mainGlobals mg → mg d.name = some (.ref fa) → (∀ c P, PySem.W.tabIn (K w.params) nB = some (c, P) → PySem.W.CodeHd h c P ∧ h.get? P = some (PySem.W.tabObj #[])) → (∀ c P, PySem.W.tabIn (K w.params) nW = some (c, P) → PySem.W.CodeHd h c P ∧ h.get? P = some (PySem.W.tabObj #[])) → (∀ c P, PySem.W.tabIn (K w.params) nC = some (c, P) → PySem.W.CodeHd h c P ∧ h.get? P = some (PySem.W.tabObj #[])) → (∀ c P, PySem.W.tabIn (K w.params) nN = some (c, P) → PySem.W.CodeHd h c P ∧ h.get? P = some (PySem.W.tabObj #[])) → LawAtS l w (K w.params) L2.CX0 k 63 x mg fa h) :
    PySem.W.WalkO q loose XP YP l.row.toRowW d [] (fun f vs => PySem.call f vs) := by
  refine Att.attach_callB most nodef fun w sA sB mg mb fL oL pmL cdL docL aL vsL nsL G Y hoL hdL hcL hmgL hobj hints hlen hbits hgens => ?_
  have KX := inK w _ Y
  obtain ⟨fdL, cs, sp, tEmpty, tNone, tCode, bnd, told, okF⟩ := F w mg fL _ KX G.T.g hmgL (fun c P e => PySem.W.tab_of G.T KX foundB e) (fun c P e => PySem.W.tab_of G.T KX foundW e) (fun c P e => PySem.W.tab_of G.T KX foundC e) (fun c P e => PySem.W.tab_of G.T KX foundN e)
  refine law_callTs KX G.T.g G.T.b G.T.builtins G.T.nolimit hgens tEmpty tNone tCode G.T.bmain hobj hints (Nat.le_trans hlen (by decide)) room okF bnd (fun H hH hS => told H aL nsL hlen hbits hH hS) ?_
  intro H e s' z
  exact z
theorem all_mk {l : PySem.W.OpenLaw} {w : World} {K : PySem.W.Frag} {h : Heap} {mg : Str → Option Value} {fa f1 f2 f3 f4 f5 f6 f7 f8 f9 f10 f11 f12 f13 f14 f15 f16 f17 f18 f19 f20 f21 f22 f23 f24 f25 f26 f27 f28 f29 f30 f31 f32 f33 f34 f35 f36 f37 f38 f39 f40 f41 f42 f43 f44 f45 f46 f47 f48 f49 f50 : Addr} (X : K.In h) (G : h.Ns mainGlobals mg) (hfa : mg "law" = some (.ref fa))
    {od1 od2 od3 od4 od5 od6 od7 od8 od9 od10 od11 od12 od13 od14 od15 od16 od17 od18 od19 od20 od21 od22 od23 od24 od25 od26 od27 od28 od29 od30 od31 od32 od33 od34 od35 od36 od37 od38 od39 od40 od41 od42 od43 od44 od45 od46 od47 od48 od49 od50 an1 an2 an3 an4 an5 an6 an7 an8 an9 an10 an11 an12 an13 an14 an15 an16 an17 an18 an19 an20 an21 an22 an23 an24 an25 an26 an27 an28 an29 an30 an31 an32 an33 an34 an35 an36 an37 an38 an39 an40 an41 an42 an43 an44 an45 an46 an47 an48 an49 an50 : Option Addr} {sl1 sl2 sl3 sl4 sl5 sl6 sl7 sl8 sl9 sl10 sl11 sl12 sl13 sl14 sl15 sl16 sl17 sl18 sl19 sl20 sl21 sl22 sl23 sl24 sl25 sl26 sl27 sl28 sl29 sl30 sl31 sl32 sl33 sl34 sl35 sl36 sl37 sl38 sl39 sl40 sl41 sl42 sl43 sl44 sl45 sl46 sl47 sl48 sl49 sl50 : Array (Option Value)} {oc1 oc2 oc3 oc4 oc5 oc6 oc7 oc8 oc9 oc10 oc11 oc12 oc13 oc14 oc15 oc16 oc17 oc18 oc19 oc20 oc21 oc22 oc23 oc24 oc25 oc26 oc27 oc28 oc29 oc30 oc31 oc32 oc33 oc34 oc35 oc36 oc37 oc38 oc39 oc40 oc41 oc42 oc43 oc44 oc45 oc46 oc47 oc48 oc49 oc50 kV1 kV2 kV3 kV4 kV5 kV6 kV7 kV8 kV9 kV10 kV11 kV12 kV13 kV14 kV15 kV16 kV17 kV18 kV19 kV20 kV21 kV22 kV23 kV24 kV25 kV26 kV27 kV28 kV29 kV30 kV31 kV32 kV33 kV34 kV35 kV36 kV37 kV38 kV39 kV40 kV41 kV42 kV43 kV44 kV45 kV46 kV47 kV48 kV49 kV50 dc1 dc2 dc3 dc4 dc5 dc6 dc7 dc8 dc9 dc10 dc11 dc12 dc13 dc14 dc15 dc16 dc17 dc18 dc19 dc20 dc21 dc22 dc23 dc24 dc25 dc26 dc27 dc28 dc29 dc30 dc31 dc32 dc33 dc34 dc35 dc36 dc37 dc38 dc39 dc40 dc41 dc42 dc43 dc44 dc45 dc46 dc47 dc48 dc49 dc50 pm1 pm2 pm3 pm4 pm5 pm6 pm7 pm8 pm9 pm10 pm11 pm12 pm13 pm14 pm15 pm16 pm17 pm18 pm19 pm20 pm21 pm22 pm23 pm24 pm25 pm26 pm27 pm28 pm29 pm30 pm31 pm32 pm33 pm34 pm35 pm36 pm37 pm38 pm39 pm40 pm41 pm42 pm43 pm44 pm45 pm46 pm47 pm48 pm49 pm50 cd1 cd2 cd3 cd4 cd5 cd6 cd7 cd8 cd9 cd10 cd11 cd12 cd13 cd15 cd16 cd17 cd18 cd19 cd20 cd21 cd22 cd23 cd24 cd25 cd26 cd29 cd30 cd31 cd32 cd33 cd34 cd36 cd37 cd38 cd39 cd40 cd41 cd42 cd43 cd44 cd45 cd46 cd47 cd48 cd49 cd50 ct1 ct2 ct3 ct4 ct5 ct6 ct7 ct8 ct9 ct10 ct11 ct12 ct13 ct14 ct15 ct16 ct17 ct18 ct19 ct20 ct21 ct22 ct23 ct24 ct25 ct26 ct27 ct28 ct29 ct30 ct31 ct32 ct33 ct34 ct35 ct36 ct37 ct38 ct39 ct40 ct41 ct42 ct43 ct44 ct45 ct46 ct47 ct48 ct49 ct50 : Value}
    {cKeptTree : Addr} {fKeptTreeinit : Addr} {odKeptTreeinit anKeptTreeinit : Option Addr} {slKeptTreeinit : Array (Option Value)} {ocKeptTreeinit kVKeptTreeinit dcKeptTreeinit pmKeptTreeinit cdKeptTreeinit ctKeptTreeinit : Value} {fKeptTreetree_now : Addr} {odKeptTreetree_now anKeptTreetree_now : Option Addr} {slKeptTreetree_now : Array (Option Value)} {ocKeptTreetree_now kVKeptTreetree_now dcKeptTreetree_now pmKeptTreetree_now cdKeptTreetree_now ctKeptTreetree_now : Value} {fKeptTreefarthest_now : Addr} {odKeptTreefarthest_now anKeptTreefarthest_now : Option Addr} {slKeptTreefarthest_now : Array (Option Value)} {ocKeptTreefarthest_now kVKeptTreefarthest_now dcKeptTreefarthest_now pmKeptTreefarthest_now cdKeptTreefarthest_now ctKeptTreefarthest_now : Value} {fKeptTreemiddle_now : Addr} {odKeptTreemiddle_now anKeptTreemiddle_now : Option Addr} {slKeptTreemiddle_now : Array (Option Value)} {ocKeptTreemiddle_now kVKeptTreemiddle_now dcKeptTreemiddle_now pmKeptTreemiddle_now cdKeptTreemiddle_now ctKeptTreemiddle_now : Value}
    {cB PtB : Addr} {eB : Value} {ddB : Option Addr} {vsB : Array Value} {stB : Array (Option Value)} (kcB : K.lookup cB = some ⟨eB, ddB, .fields vsB, stB⟩) (vPB : (vsB[11]? : Option Value) = some (.ref PtB)) (nTB : K.lookup PtB = none) (tabB : ∀ c P, PySem.W.tabIn K "best_join" = some (c, P) → PySem.W.CodeHd h c P ∧ h.get? P = some (PySem.W.tabObj #[]))
    {cW PtW : Addr} {eW : Value} {ddW : Option Addr} {vsW : Array Value} {stW : Array (Option Value)} (kcW : K.lookup cW = some ⟨eW, ddW, .fields vsW, stW⟩) (vPW : (vsW[11]? : Option Value) = some (.ref PtW)) (nTW : K.lookup PtW = none) (tabW : ∀ c P, PySem.W.tabIn K "worst_join" = some (c, P) → PySem.W.CodeHd h c P ∧ h.get? P = some (PySem.W.tabObj #[]))
    {cC PtC : Addr} {eC : Value} {ddC : Option Addr} {vsC : Array Value} {stC : Array (Option Value)} (kcC : K.lookup cC = some ⟨eC, ddC, .fields vsC, stC⟩) (vPC : (vsC[11]? : Option Value) = some (.ref PtC)) (nTC : K.lookup PtC = none) (tabC : ∀ c P, PySem.W.tabIn K "best_change" = some (c, P) → PySem.W.CodeHd h c P ∧ h.get? P = some (PySem.W.tabObj #[]))
    {cN PtN : Addr} {eN : Value} {ddN : Option Addr} {vsN : Array Value} {stN : Array (Option Value)} (kcN : K.lookup cN = some ⟨eN, ddN, .fields vsN, stN⟩) (vPN : (vsN[11]? : Option Value) = some (.ref PtN)) (nTN : K.lookup PtN = none) (tabN : ∀ c P, PySem.W.tabIn K "nth_farthest" = some (c, P) → PySem.W.CodeHd h c P ∧ h.get? P = some (PySem.W.tabObj #[]))
    (neBW : PtB ≠ PtW) (neBC : PtB ≠ PtC) (neBN : PtB ≠ PtN) (neWC : PtW ≠ PtC) (neWN : PtW ≠ PtN) (neCN : PtC ≠ PtN)
    (a1 : PySem.W.nsIn K mainGlobals "_law_deck" = some (some (.ref f1))) (l1 : K.lookup f1 = some ⟨oc1, od1, .func (PySem.W.fnOf "_law_deck" "_law_deck" (defArgs s_law_deck) (defBody s_law_deck) (defScope s_law_deck) .none kV1 dc1 pm1 an1 cd1 ct1), sl1⟩) (c1 : PySem.W.codeIn K cd1 "_law_deck" = true) (k1 : PySem.W.keepIn K (.ref f1) = true)
    (a2 : PySem.W.nsIn K mainGlobals "_law_draw" = some (some (.ref f2))) (l2 : K.lookup f2 = some ⟨oc2, od2, .func (PySem.W.fnOf "_law_draw" "_law_draw" (defArgs s_law_draw) (defBody s_law_draw) (defScope s_law_draw) .none kV2 dc2 pm2 an2 cd2 ct2), sl2⟩) (c2 : PySem.W.codeIn K cd2 "_law_draw" = true) (k2 : PySem.W.keepIn K (.ref f2) = true)
    (a3 : PySem.W.nsIn K mainGlobals "_law_names" = some (some (.ref f3))) (l3 : K.lookup f3 = some ⟨oc3, od3, .func (PySem.W.fnOf "_law_names" "_law_names" (defArgs s_law_names) (defBody s_law_names) (defScope s_law_names) .none kV3 dc3 pm3 an3 cd3 ct3), sl3⟩) (c3 : PySem.W.codeIn K cd3 "_law_names" = true) (k3 : PySem.W.keepIn K (.ref f3) = true)
    (a4 : PySem.W.nsIn K mainGlobals "_law_tree" = some (some (.ref f4))) (l4 : K.lookup f4 = some ⟨oc4, od4, .func (PySem.W.fnOf "_law_tree" "_law_tree" (defArgs s_law_tree) (defBody s_law_tree) (defScope s_law_tree) .none kV4 dc4 pm4 an4 cd4 ct4), sl4⟩) (c4 : PySem.W.codeIn K cd4 "_law_tree" = true) (k4 : PySem.W.keepIn K (.ref f4) = true)
    (a5 : PySem.W.nsIn K mainGlobals "_ties_of_each" = some (some (.ref f5))) (l5 : K.lookup f5 = some ⟨oc5, od5, .func (PySem.W.fnOf "_ties_of_each" "_ties_of_each" (defArgs s_ties_of_each) (defBody s_ties_of_each) (defScope s_ties_of_each) .none kV5 dc5 pm5 an5 cd5 ct5), sl5⟩) (c5 : PySem.W.codeIn K cd5 "_ties_of_each" = true) (k5 : PySem.W.keepIn K (.ref f5) = true)
    (a6 : PySem.W.nsIn K mainGlobals "walk_from" = some (some (.ref f6))) (l6 : K.lookup f6 = some ⟨oc6, od6, .func (PySem.W.fnOf "walk_from" "walk_from" (defArgs s_walk_from) (defBody s_walk_from) (defScope s_walk_from) .none kV6 dc6 pm6 an6 cd6 ct6), sl6⟩) (c6 : PySem.W.codeIn K cd6 "walk_from" = true) (k6 : PySem.W.keepIn K (.ref f6) = true)
    (a7 : PySem.W.nsIn K mainGlobals "check_places" = some (some (.ref f7))) (l7 : K.lookup f7 = some ⟨oc7, od7, .func (PySem.W.fnOf "check_places" "check_places" (defArgs s_check_places) (defBody s_check_places) (defScope s_check_places) .none kV7 dc7 pm7 an7 cd7 ct7), sl7⟩) (c7 : PySem.W.codeIn K cd7 "check_places" = true) (k7 : PySem.W.keepIn K (.ref f7) = true)
    (a8 : PySem.W.nsIn K mainGlobals "lengths_from" = some (some (.ref f8))) (l8 : K.lookup f8 = some ⟨oc8, od8, .func (PySem.W.fnOf "lengths_from" "lengths_from" (defArgs s_lengths_from) (defBody s_lengths_from) (defScope s_lengths_from) .none kV8 dc8 pm8 an8 cd8 ct8), sl8⟩) (c8 : PySem.W.codeIn K cd8 "lengths_from" = true) (k8 : PySem.W.keepIn K (.ref f8) = true)
    (a9 : PySem.W.nsIn K mainGlobals "length_between" = some (some (.ref f9))) (l9 : K.lookup f9 = some ⟨oc9, od9, .func (PySem.W.fnOf "length_between" "length_between" (defArgs s_length_between) (defBody s_length_between) (defScope s_length_between) .none kV9 dc9 pm9 an9 cd9 ct9), sl9⟩) (c9 : PySem.W.codeIn K cd9 "length_between" = true) (k9 : PySem.W.keepIn K (.ref f9) = true)
    (a10 : PySem.W.nsIn K mainGlobals "way_between" = some (some (.ref f10))) (l10 : K.lookup f10 = some ⟨oc10, od10, .func (PySem.W.fnOf "way_between" "way_between" (defArgs s_way_between) (defBody s_way_between) (defScope s_way_between) .none kV10 dc10 pm10 an10 cd10 ct10), sl10⟩) (c10 : PySem.W.codeIn K cd10 "way_between" = true) (k10 : PySem.W.keepIn K (.ref f10) = true)
    (a11 : PySem.W.nsIn K mainGlobals "pairs_in_order" = some (some (.ref f11))) (l11 : K.lookup f11 = some ⟨oc11, od11, .func (PySem.W.fnOf "pairs_in_order" "pairs_in_order" (defArgs s_pairs_in_order) (defBody s_pairs_in_order) (defScope s_pairs_in_order) .none kV11 dc11 pm11 an11 cd11 ct11), sl11⟩) (c11 : PySem.W.codeIn K cd11 "pairs_in_order" = true) (k11 : PySem.W.keepIn K (.ref f11) = true)
    (a12 : PySem.W.nsIn K mainGlobals "farthest" = some (some (.ref f12))) (l12 : K.lookup f12 = some ⟨oc12, od12, .func (PySem.W.fnOf "farthest" "farthest" (defArgs s_farthest) (defBody s_farthest) (defScope s_farthest) .none kV12 dc12 pm12 an12 cd12 ct12), sl12⟩) (c12 : PySem.W.codeIn K cd12 "farthest" = true) (k12 : PySem.W.keepIn K (.ref f12) = true)
    (a13 : PySem.W.nsIn K mainGlobals "all_farthest" = some (some (.ref f13))) (l13 : K.lookup f13 = some ⟨oc13, od13, .func (PySem.W.fnOf "all_farthest" "all_farthest" (defArgs s_all_farthest) (defBody s_all_farthest) (defScope s_all_farthest) .none kV13 dc13 pm13 an13 cd13 ct13), sl13⟩) (c13 : PySem.W.codeIn K cd13 "all_farthest" = true) (k13 : PySem.W.keepIn K (.ref f13) = true)
    (a14 : PySem.W.nsIn K mainGlobals "nth_farthest" = some (some (.ref f14))) (l14 : K.lookup f14 = some ⟨oc14, od14, .func (PySem.W.fnOf "nth_farthest" "nth_farthest" (defArgs s_nth_farthest) (defBody s_nth_farthest) (defScope s_nth_farthest) .none kV14 dc14 pm14 an14 (.ref cN) ct14), sl14⟩) (c14 : PySem.W.codeIn K (.ref cN) "nth_farthest" = true) (k14 : PySem.W.keepIn K (.ref f14) = true)
    (a15 : PySem.W.nsIn K mainGlobals "count_so_far" = some (some (.ref f15))) (l15 : K.lookup f15 = some ⟨oc15, od15, .func (PySem.W.fnOf "count_so_far" "count_so_far" (defArgs s_count_so_far) (defBody s_count_so_far) (defScope s_count_so_far) .none kV15 dc15 pm15 an15 cd15 ct15), sl15⟩) (c15 : PySem.W.codeIn K cd15 "count_so_far" = true) (k15 : PySem.W.keepIn K (.ref f15) = true)
    (a16 : PySem.W.nsIn K mainGlobals "farthest_of_each" = some (some (.ref f16))) (l16 : K.lookup f16 = some ⟨oc16, od16, .func (PySem.W.fnOf "farthest_of_each" "farthest_of_each" (defArgs s_farthest_of_each) (defBody s_farthest_of_each) (defScope s_farthest_of_each) .none kV16 dc16 pm16 an16 cd16 ct16), sl16⟩) (c16 : PySem.W.codeIn K cd16 "farthest_of_each" = true) (k16 : PySem.W.keepIn K (.ref f16) = true)
    (a17 : PySem.W.nsIn K mainGlobals "middles" = some (some (.ref f17))) (l17 : K.lookup f17 = some ⟨oc17, od17, .func (PySem.W.fnOf "middles" "middles" (defArgs s_middles) (defBody s_middles) (defScope s_middles) .none kV17 dc17 pm17 an17 cd17 ct17), sl17⟩) (c17 : PySem.W.codeIn K cd17 "middles" = true) (k17 : PySem.W.keepIn K (.ref f17) = true)
    (a18 : PySem.W.nsIn K mainGlobals "_fraction" = some (some (.ref f18))) (l18 : K.lookup f18 = some ⟨oc18, od18, .func (PySem.W.fnOf "_fraction" "_fraction" (defArgs s_fraction) (defBody s_fraction) (defScope s_fraction) .none kV18 dc18 pm18 an18 cd18 ct18), sl18⟩) (c18 : PySem.W.codeIn K cd18 "_fraction" = true) (k18 : PySem.W.keepIn K (.ref f18) = true)
    (a19 : PySem.W.nsIn K mainGlobals "_half_way" = some (some (.ref f19))) (l19 : K.lookup f19 = some ⟨oc19, od19, .func (PySem.W.fnOf "_half_way" "_half_way" (defArgs s_half_way) (defBody s_half_way) (defScope s_half_way) .none kV19 dc19 pm19 an19 cd19 ct19), sl19⟩) (c19 : PySem.W.codeIn K cd19 "_half_way" = true) (k19 : PySem.W.keepIn K (.ref f19) = true)
    (a20 : PySem.W.nsIn K mainGlobals "middle_point" = some (some (.ref f20))) (l20 : K.lookup f20 = some ⟨oc20, od20, .func (PySem.W.fnOf "middle_point" "middle_point" (defArgs s_middle_point) (defBody s_middle_point) (defScope s_middle_point) .none kV20 dc20 pm20 an20 cd20 ct20), sl20⟩) (c20 : PySem.W.codeIn K cd20 "middle_point" = true) (k20 : PySem.W.keepIn K (.ref f20) = true)
    (a21 : PySem.W.nsIn K mainGlobals "sums_from" = some (some (.ref f21))) (l21 : K.lookup f21 = some ⟨oc21, od21, .func (PySem.W.fnOf "sums_from" "sums_from" (defArgs s_sums_from) (defBody s_sums_from) (defScope s_sums_from) .none kV21 dc21 pm21 an21 cd21 ct21), sl21⟩) (c21 : PySem.W.codeIn K cd21 "sums_from" = true) (k21 : PySem.W.keepIn K (.ref f21) = true)
    (a22 : PySem.W.nsIn K mainGlobals "least_sums" = some (some (.ref f22))) (l22 : K.lookup f22 = some ⟨oc22, od22, .func (PySem.W.fnOf "least_sums" "least_sums" (defArgs s_least_sums) (defBody s_least_sums) (defScope s_least_sums) .none kV22 dc22 pm22 an22 cd22 ct22), sl22⟩) (c22 : PySem.W.codeIn K cd22 "least_sums" = true) (k22 : PySem.W.keepIn K (.ref f22) = true)
    (a23 : PySem.W.nsIn K mainGlobals "total_of" = some (some (.ref f23))) (l23 : K.lookup f23 = some ⟨oc23, od23, .func (PySem.W.fnOf "total_of" "total_of" (defArgs s_total_of) (defBody s_total_of) (defScope s_total_of) .none kV23 dc23 pm23 an23 cd23 ct23), sl23⟩) (c23 : PySem.W.codeIn K cd23 "total_of" = true) (k23 : PySem.W.keepIn K (.ref f23) = true)
    (a24 : PySem.W.nsIn K mainGlobals "pairs_by_length" = some (some (.ref f24))) (l24 : K.lookup f24 = some ⟨oc24, od24, .func (PySem.W.fnOf "pairs_by_length" "pairs_by_length" (defArgs s_pairs_by_length) (defBody s_pairs_by_length) (defScope s_pairs_by_length) .none kV24 dc24 pm24 an24 cd24 ct24), sl24⟩) (c24 : PySem.W.codeIn K cd24 "pairs_by_length" = true) (k24 : PySem.W.keepIn K (.ref f24) = true)
    (a25 : PySem.W.nsIn K mainGlobals "_check_unlike" = some (some (.ref f25))) (l25 : K.lookup f25 = some ⟨oc25, od25, .func (PySem.W.fnOf "_check_unlike" "_check_unlike" (defArgs s_check_unlike) (defBody s_check_unlike) (defScope s_check_unlike) .none kV25 dc25 pm25 an25 cd25 ct25), sl25⟩) (c25 : PySem.W.codeIn K cd25 "_check_unlike" = true) (k25 : PySem.W.keepIn K (.ref f25) = true)
    (a26 : PySem.W.nsIn K mainGlobals "_all_joins" = some (some (.ref f26))) (l26 : K.lookup f26 = some ⟨oc26, od26, .func (PySem.W.fnOf "_all_joins" "_all_joins" (defArgs s_all_joins) (defBody s_all_joins) (defScope s_all_joins) .none kV26 dc26 pm26 an26 cd26 ct26), sl26⟩) (c26 : PySem.W.codeIn K cd26 "_all_joins" = true) (k26 : PySem.W.keepIn K (.ref f26) = true)
    (a27 : PySem.W.nsIn K mainGlobals "best_join" = some (some (.ref f27))) (l27 : K.lookup f27 = some ⟨oc27, od27, .func (PySem.W.fnOf "best_join" "best_join" (defArgs s_best_join) (defBody s_best_join) (defScope s_best_join) .none kV27 dc27 pm27 an27 (.ref cB) ct27), sl27⟩) (c27 : PySem.W.codeIn K (.ref cB) "best_join" = true) (k27 : PySem.W.keepIn K (.ref f27) = true)
    (a28 : PySem.W.nsIn K mainGlobals "worst_join" = some (some (.ref f28))) (l28 : K.lookup f28 = some ⟨oc28, od28, .func (PySem.W.fnOf "worst_join" "worst_join" (defArgs s_worst_join) (defBody s_worst_join) (defScope s_worst_join) .none kV28 dc28 pm28 an28 (.ref cW) ct28), sl28⟩) (c28 : PySem.W.codeIn K (.ref cW) "worst_join" = true) (k28 : PySem.W.keepIn K (.ref f28) = true)
    (a29 : PySem.W.nsIn K mainGlobals "_lengths_apart" = some (some (.ref f29))) (l29 : K.lookup f29 = some ⟨oc29, od29, .func (PySem.W.fnOf "_lengths_apart" "_lengths_apart" (defArgs s_lengths_apart) (defBody s_lengths_apart) (defScope s_lengths_apart) .none kV29 dc29 pm29 an29 cd29 ct29), sl29⟩) (c29 : PySem.W.codeIn K cd29 "_lengths_apart" = true) (k29 : PySem.W.keepIn K (.ref f29) = true)
    (a30 : PySem.W.nsIn K mainGlobals "_reaches" = some (some (.ref f30))) (l30 : K.lookup f30 = some ⟨oc30, od30, .func (PySem.W.fnOf "_reaches" "_reaches" (defArgs s_reaches) (defBody s_reaches) (defScope s_reaches) .none kV30 dc30 pm30 an30 cd30 ct30), sl30⟩) (c30 : PySem.W.codeIn K cd30 "_reaches" = true) (k30 : PySem.W.keepIn K (.ref f30) = true)
    (a31 : PySem.W.nsIn K mainGlobals "_parts_without" = some (some (.ref f31))) (l31 : K.lookup f31 = some ⟨oc31, od31, .func (PySem.W.fnOf "_parts_without" "_parts_without" (defArgs s_u_parts_without) (defBody s_u_parts_without) (defScope s_u_parts_without) .none kV31 dc31 pm31 an31 cd31 ct31), sl31⟩) (c31 : PySem.W.codeIn K cd31 "_parts_without" = true) (k31 : PySem.W.keepIn K (.ref f31) = true)
    (a32 : PySem.W.nsIn K mainGlobals "parts_without" = some (some (.ref f32))) (l32 : K.lookup f32 = some ⟨oc32, od32, .func (PySem.W.fnOf "parts_without" "parts_without" (defArgs s_parts_without) (defBody s_parts_without) (defScope s_parts_without) .none kV32 dc32 pm32 an32 cd32 ct32), sl32⟩) (c32 : PySem.W.codeIn K cd32 "parts_without" = true) (k32 : PySem.W.keepIn K (.ref f32) = true)
    (a33 : PySem.W.nsIn K mainGlobals "_pairs_between" = some (some (.ref f33))) (l33 : K.lookup f33 = some ⟨oc33, od33, .func (PySem.W.fnOf "_pairs_between" "_pairs_between" (defArgs s_pairs_between) (defBody s_pairs_between) (defScope s_pairs_between) .none kV33 dc33 pm33 an33 cd33 ct33), sl33⟩) (c33 : PySem.W.codeIn K cd33 "_pairs_between" = true) (k33 : PySem.W.keepIn K (.ref f33) = true)
    (a34 : PySem.W.nsIn K mainGlobals "_changes_of" = some (some (.ref f34))) (l34 : K.lookup f34 = some ⟨oc34, od34, .func (PySem.W.fnOf "_changes_of" "_changes_of" (defArgs s_changes_of) (defBody s_changes_of) (defScope s_changes_of) .none kV34 dc34 pm34 an34 cd34 ct34), sl34⟩) (c34 : PySem.W.codeIn K cd34 "_changes_of" = true) (k34 : PySem.W.keepIn K (.ref f34) = true)
    (a35 : PySem.W.nsIn K mainGlobals "best_change" = some (some (.ref f35))) (l35 : K.lookup f35 = some ⟨oc35, od35, .func (PySem.W.fnOf "best_change" "best_change" (defArgs s_best_change) (defBody s_best_change) (defScope s_best_change) .none kV35 dc35 pm35 an35 (.ref cC) ct35), sl35⟩) (c35 : PySem.W.codeIn K (.ref cC) "best_change" = true) (k35 : PySem.W.keepIn K (.ref f35) = true)
    (a36 : PySem.W.nsIn K mainGlobals "leaves_of" = some (some (.ref f36))) (l36 : K.lookup f36 = some ⟨oc36, od36, .func (PySem.W.fnOf "leaves_of" "leaves_of" (defArgs s_leaves_of) (defBody s_leaves_of) (defScope s_leaves_of) .none kV36 dc36 pm36 an36 cd36 ct36), sl36⟩) (c36 : PySem.W.codeIn K cd36 "leaves_of" = true) (k36 : PySem.W.keepIn K (.ref f36) = true)
    (a37 : PySem.W.nsIn K mainGlobals "part_of" = some (some (.ref f37))) (l37 : K.lookup f37 = some ⟨oc37, od37, .func (PySem.W.fnOf "part_of" "part_of" (defArgs s_part_of) (defBody s_part_of) (defScope s_part_of) .none kV37 dc37 pm37 an37 cd37 ct37), sl37⟩) (c37 : PySem.W.codeIn K cd37 "part_of" = true) (k37 : PySem.W.keepIn K (.ref f37) = true)
    (a38 : PySem.W.nsIn K mainGlobals "without_leaves" = some (some (.ref f38))) (l38 : K.lookup f38 = some ⟨oc38, od38, .func (PySem.W.fnOf "without_leaves" "without_leaves" (defArgs s_without_leaves) (defBody s_without_leaves) (defScope s_without_leaves) .none kV38 dc38 pm38 an38 cd38 ct38), sl38⟩) (c38 : PySem.W.codeIn K cd38 "without_leaves" = true) (k38 : PySem.W.keepIn K (.ref f38) = true)
    (a39 : PySem.W.nsIn K mainGlobals "peeled" = some (some (.ref f39))) (l39 : K.lookup f39 = some ⟨oc39, od39, .func (PySem.W.fnOf "peeled" "peeled" (defArgs s_peeled) (defBody s_peeled) (defScope s_peeled) .none kV39 dc39 pm39 an39 cd39 ct39), sl39⟩) (c39 : PySem.W.codeIn K cd39 "peeled" = true) (k39 : PySem.W.keepIn K (.ref f39) = true)
    (a40 : PySem.W.nsIn K mainGlobals "_places_near" = some (some (.ref f40))) (l40 : K.lookup f40 = some ⟨oc40, od40, .func (PySem.W.fnOf "_places_near" "_places_near" (defArgs s_places_near) (defBody s_places_near) (defScope s_places_near) .none kV40 dc40 pm40 an40 cd40 ct40), sl40⟩) (c40 : PySem.W.codeIn K cd40 "_places_near" = true) (k40 : PySem.W.keepIn K (.ref f40) = true)
    (a41 : PySem.W.nsIn K mainGlobals "_helpers" = some (some (.ref f41))) (l41 : K.lookup f41 = some ⟨oc41, od41, .func (PySem.W.fnOf "_helpers" "_helpers" (defArgs s_helpers) (defBody s_helpers) (defScope s_helpers) .none kV41 dc41 pm41 an41 cd41 ct41), sl41⟩) (c41 : PySem.W.codeIn K cd41 "_helpers" = true) (k41 : PySem.W.keepIn K (.ref f41) = true)
    (a42 : PySem.W.nsIn K mainGlobals "_fewest_with" = some (some (.ref f42))) (l42 : K.lookup f42 = some ⟨oc42, od42, .func (PySem.W.fnOf "_fewest_with" "_fewest_with" (defArgs s_fewest_with) (defBody s_fewest_with) (defScope s_fewest_with) .none kV42 dc42 pm42 an42 cd42 ct42), sl42⟩) (c42 : PySem.W.codeIn K cd42 "_fewest_with" = true) (k42 : PySem.W.keepIn K (.ref f42) = true)
    (a43 : PySem.W.nsIn K mainGlobals "fewest_within" = some (some (.ref f43))) (l43 : K.lookup f43 = some ⟨oc43, od43, .func (PySem.W.fnOf "fewest_within" "fewest_within" (defArgs s_fewest_within) (defBody s_fewest_within) (defScope s_fewest_within) .none kV43 dc43 pm43 an43 cd43 ct43), sl43⟩) (c43 : PySem.W.codeIn K cd43 "fewest_within" = true) (k43 : PySem.W.keepIn K (.ref f43) = true)
    (a44 : PySem.W.nsIn K mainGlobals "_law_drawn" = some (some (.ref f44))) (l44 : K.lookup f44 = some ⟨oc44, od44, .func (PySem.W.fnOf "_law_drawn" "_law_drawn" (defArgs s_law_drawn) (defBody s_law_drawn) (defScope s_law_drawn) .none kV44 dc44 pm44 an44 cd44 ct44), sl44⟩) (c44 : PySem.W.codeIn K cd44 "_law_drawn" = true) (k44 : PySem.W.keepIn K (.ref f44) = true)
    (a45 : PySem.W.nsIn K mainGlobals "_law_longer" = some (some (.ref f45))) (l45 : K.lookup f45 = some ⟨oc45, od45, .func (PySem.W.fnOf "_law_longer" "_law_longer" (defArgs s_law_longer) (defBody s_law_longer) (defScope s_law_longer) .none kV45 dc45 pm45 an45 cd45 ct45), sl45⟩) (c45 : PySem.W.codeIn K cd45 "_law_longer" = true) (k45 : PySem.W.keepIn K (.ref f45) = true)
    (a46 : PySem.W.nsIn K mainGlobals "_law_fraction" = some (some (.ref f46))) (l46 : K.lookup f46 = some ⟨oc46, od46, .func (PySem.W.fnOf "_law_fraction" "_law_fraction" (defArgs s_law_fraction) (defBody s_law_fraction) (defScope s_law_fraction) .none kV46 dc46 pm46 an46 cd46 ct46), sl46⟩) (c46 : PySem.W.codeIn K cd46 "_law_fraction" = true) (k46 : PySem.W.keepIn K (.ref f46) = true)
    (a47 : PySem.W.nsIn K mainGlobals "_law_lengths" = some (some (.ref f47))) (l47 : K.lookup f47 = some ⟨oc47, od47, .func (PySem.W.fnOf "_law_lengths" "_law_lengths" (defArgs s_law_lengths) (defBody s_law_lengths) (defScope s_law_lengths) .none kV47 dc47 pm47 an47 cd47 ct47), sl47⟩) (c47 : PySem.W.codeIn K cd47 "_law_lengths" = true) (k47 : PySem.W.keepIn K (.ref f47) = true)
    (a48 : PySem.W.nsIn K mainGlobals "_law_forms" = some (some (.ref f48))) (l48 : K.lookup f48 = some ⟨oc48, od48, .func (PySem.W.fnOf "_law_forms" "_law_forms" (defArgs s_law_forms) (defBody s_law_forms) (defScope s_law_forms) .none kV48 dc48 pm48 an48 cd48 ct48), sl48⟩) (c48 : PySem.W.codeIn K cd48 "_law_forms" = true) (k48 : PySem.W.keepIn K (.ref f48) = true)
    (a49 : PySem.W.nsIn K mainGlobals "_law_counted_right" = some (some (.ref f49))) (l49 : K.lookup f49 = some ⟨oc49, od49, .func (PySem.W.fnOf "_law_counted_right" "_law_counted_right" (defArgs s_law_counted_right) (defBody s_law_counted_right) (defScope s_law_counted_right) .none kV49 dc49 pm49 an49 cd49 ct49), sl49⟩) (c49 : PySem.W.codeIn K cd49 "_law_counted_right" = true) (k49 : PySem.W.keepIn K (.ref f49) = true)
    (a50 : PySem.W.nsIn K mainGlobals "law" = some (some (.ref f50))) (l50 : K.lookup f50 = some ⟨oc50, od50, .func (PySem.W.fnOf "law" "law" (defArgs s_law) (defBody s_law) (defScope s_law) .none kV50 dc50 pm50 an50 cd50 ct50), sl50⟩) (c50 : PySem.W.codeIn K cd50 "law" = true) (k50 : PySem.W.keepIn K (.ref f50) = true)
    (zabs : PySem.W.nsIn K mainGlobals "abs" = some none)
    (zany : PySem.W.nsIn K mainGlobals "any" = some none)
    (zbool : PySem.W.nsIn K mainGlobals "bool" = some none)
    (zdict : PySem.W.nsIn K mainGlobals "dict" = some none)
    (zenumerate : PySem.W.nsIn K mainGlobals "enumerate" = some none)
    (zint : PySem.W.nsIn K mainGlobals "int" = some none)
    (zisinstance : PySem.W.nsIn K mainGlobals "isinstance" = some none)
    (zlen : PySem.W.nsIn K mainGlobals "len" = some none)
    (zlist : PySem.W.nsIn K mainGlobals "list" = some none)
    (zmax : PySem.W.nsIn K mainGlobals "max" = some none)
    (zmin : PySem.W.nsIn K mainGlobals "min" = some none)
    (zrange : PySem.W.nsIn K mainGlobals "range" = some none)
    (zsorted : PySem.W.nsIn K mainGlobals "sorted" = some none)
    (zsum : PySem.W.nsIn K mainGlobals "sum" = some none)
    (ztuple : PySem.W.nsIn K mainGlobals "tuple" = some none)
    (zzip : PySem.W.nsIn K mainGlobals "zip" = some none)
    (zgcd : PySem.W.nsIn K mainGlobals "gcd" = some (some (.builtin "math.gcd")))
    (gKeptTree : PySem.W.nsIn K mainGlobals "KeptTree" = some (some (.ref cKeptTree)))
    (pgKeptTree : PySem.W.plainGet K cKeptTree Str.empty = true)
    (hdKeptTree : PySem.W.hasDictIn K cKeptTree = true)
    (poKeptTree : PySem.W.plainOver K cKeptTree = true)
    (saKeptTree : PySem.W.findIn K (.ref cKeptTree) "__setattr__" = some (some (.builtin "object.__setattr__")))
    (mkKeptTree : PySem.W.makesIn K cKeptTree = true)
    (kcKeptTree : PySem.W.keepIn K (.ref cKeptTree) = true)
    (nKeptTree_tree : PySem.W.findIn K (.ref cKeptTree) "_tree" = some none)
    (aKeptTreeinit : PySem.W.findIn K (.ref cKeptTree) "__init__" = some (some (.ref fKeptTreeinit)))
    (iKeptTreeinit : PySem.W.isFn K (.ref fKeptTreeinit) = true)
    (lKeptTreeinit : K.lookup fKeptTreeinit = some ⟨ocKeptTreeinit, odKeptTreeinit, .func (PySem.W.fnOf "__init__" "KeptTree.__init__" (defArgs s_KeptTree_init) (defBody s_KeptTree_init) (defScope s_KeptTree_init) .none kVKeptTreeinit dcKeptTreeinit pmKeptTreeinit anKeptTreeinit cdKeptTreeinit ctKeptTreeinit), slKeptTreeinit⟩)
    (cKeptTreeinit : PySem.W.codeIn K cdKeptTreeinit "KeptTree.__init__" = true)
    (kKeptTreeinit : PySem.W.keepIn K (.ref fKeptTreeinit) = true)
    (aKeptTreetree_now : PySem.W.findIn K (.ref cKeptTree) "tree_now" = some (some (.ref fKeptTreetree_now)))
    (iKeptTreetree_now : PySem.W.isFn K (.ref fKeptTreetree_now) = true)
    (lKeptTreetree_now : K.lookup fKeptTreetree_now = some ⟨ocKeptTreetree_now, odKeptTreetree_now, .func (PySem.W.fnOf "tree_now" "KeptTree.tree_now" (defArgs s_KeptTree_tree_now) (defBody s_KeptTree_tree_now) (defScope s_KeptTree_tree_now) .none kVKeptTreetree_now dcKeptTreetree_now pmKeptTreetree_now anKeptTreetree_now cdKeptTreetree_now ctKeptTreetree_now), slKeptTreetree_now⟩)
    (cKeptTreetree_now : PySem.W.codeIn K cdKeptTreetree_now "KeptTree.tree_now" = true)
    (kKeptTreetree_now : PySem.W.keepIn K (.ref fKeptTreetree_now) = true)
    (aKeptTreefarthest_now : PySem.W.findIn K (.ref cKeptTree) "farthest_now" = some (some (.ref fKeptTreefarthest_now)))
    (iKeptTreefarthest_now : PySem.W.isFn K (.ref fKeptTreefarthest_now) = true)
    (lKeptTreefarthest_now : K.lookup fKeptTreefarthest_now = some ⟨ocKeptTreefarthest_now, odKeptTreefarthest_now, .func (PySem.W.fnOf "farthest_now" "KeptTree.farthest_now" (defArgs s_KeptTree_farthest_now) (defBody s_KeptTree_farthest_now) (defScope s_KeptTree_farthest_now) .none kVKeptTreefarthest_now dcKeptTreefarthest_now pmKeptTreefarthest_now anKeptTreefarthest_now cdKeptTreefarthest_now ctKeptTreefarthest_now), slKeptTreefarthest_now⟩)
    (cKeptTreefarthest_now : PySem.W.codeIn K cdKeptTreefarthest_now "KeptTree.farthest_now" = true)
    (kKeptTreefarthest_now : PySem.W.keepIn K (.ref fKeptTreefarthest_now) = true)
    (aKeptTreemiddle_now : PySem.W.findIn K (.ref cKeptTree) "middle_now" = some (some (.ref fKeptTreemiddle_now)))
    (iKeptTreemiddle_now : PySem.W.isFn K (.ref fKeptTreemiddle_now) = true)
    (lKeptTreemiddle_now : K.lookup fKeptTreemiddle_now = some ⟨ocKeptTreemiddle_now, odKeptTreemiddle_now, .func (PySem.W.fnOf "middle_now" "KeptTree.middle_now" (defArgs s_KeptTree_middle_now) (defBody s_KeptTree_middle_now) (defScope s_KeptTree_middle_now) .none kVKeptTreemiddle_now dcKeptTreemiddle_now pmKeptTreemiddle_now anKeptTreemiddle_now cdKeptTreemiddle_now ctKeptTreemiddle_now), slKeptTreemiddle_now⟩)
    (cKeptTreemiddle_now : PySem.W.codeIn K cdKeptTreemiddle_now "KeptTree.middle_now" = true)
    (kKeptTreemiddle_now : PySem.W.keepIn K (.ref fKeptTreemiddle_now) = true) :
    LamX.LawAtS l w K L2.CX0 9 63 "script" mg fa h := by
  have e := hfa.symm.trans (PySem.W.mg_of X G a50)
  cases e
  obtain ⟨⟨hmB, hmW, hmC, hmN⟩, huB, huW, huC, huN⟩ := tl4 neBW neBC neBN neWC neWN neCN
  have F1 := fun_mk (st := s_law_deck) l1 c1 k1
  have b1 := F1.binds (ps := ["script"]) fun _ _ _ _ _ _ us hl => match us, hl with | [_], _ => rfl
  have F2 := fun_mk (st := s_law_draw) l2 c2 k2
  have b2 := F2.binds (ps := ["deck", "most"]) fun _ _ _ _ _ _ us hl => match us, hl with | [_, _], _ => rfl
  have F3 := fun_mk (st := s_law_names) l3 c3 k3
  have b3 := F3.binds (ps := ["deck", "many", "taken"]) fun _ _ _ _ _ _ us hl => match us, hl with | [_, _, _], _ => rfl
  have F4 := fun_mk (st := s_law_tree) l4 c4 k4
  have b4 := F4.binds (ps := ["deck", "most", "taken"]) fun _ _ _ _ _ _ us hl => match us, hl with | [_, _, _], _ => rfl
  have F5 := fun_mk (st := s_ties_of_each) l5 c5 k5
  have b5 := F5.binds (ps := ["tree"]) fun _ _ _ _ _ _ us hl => match us, hl with | [_], _ => rfl
  have F6 := fun_mk (st := s_walk_from) l6 c6 k6
  have b6 := F6.binds (ps := ["tree", "start"]) fun _ _ _ _ _ _ us hl => match us, hl with | [_, _], _ => rfl
  have F7 := fun_mk (st := s_check_places) l7 c7 k7
  have b7 := F7.binds (ps := ["tree", "names"]) fun _ _ _ _ _ _ us hl => match us, hl with | [_, _], _ => rfl
  have F8 := fun_mk (st := s_lengths_from) l8 c8 k8
  have b8 := F8.binds (ps := ["tree", "place"]) fun _ _ _ _ _ _ us hl => match us, hl with | [_, _], _ => rfl
  have F9 := fun_mk (st := s_length_between) l9 c9 k9
  have b9 := F9.binds (ps := ["tree", "one", "other"]) fun _ _ _ _ _ _ us hl => match us, hl with | [_, _, _], _ => rfl
  have F10 := fun_mk (st := s_way_between) l10 c10 k10
  have b10 := F10.binds (ps := ["tree", "one", "other"]) fun _ _ _ _ _ _ us hl => match us, hl with | [_, _, _], _ => rfl
  have F11 := fun_mk (st := s_pairs_in_order) l11 c11 k11
  have b11 := F11.binds (ps := ["tree"]) fun _ _ _ _ _ _ us hl => match us, hl with | [_], _ => rfl
  have F12 := fun_mk (st := s_farthest) l12 c12 k12
  have b12 := F12.binds (ps := ["tree"]) fun _ _ _ _ _ _ us hl => match us, hl with | [_], _ => rfl
  have F13 := fun_mk (st := s_all_farthest) l13 c13 k13
  have b13 := F13.binds (ps := ["tree"]) fun _ _ _ _ _ _ us hl => match us, hl with | [_], _ => rfl
  have FCN : FunC K "nth_farthest" "nth_farthest" s_nth_farthest f14 _ cN := ⟨_, _, _, _, _, _, _, _, rfl, l14, c14⟩
  have F14 := fun_mk (st := s_nth_farthest) l14 c14 k14
  have b14 := F14.binds (ps := ["tree", "place"]) fun _ _ _ _ _ _ us hl => match us, hl with | [_, _], _ => rfl
  have F15 := fun_mk (st := s_count_so_far) l15 c15 k15
  have b15 := F15.binds (ps := ["tree", "length"]) fun _ _ _ _ _ _ us hl => match us, hl with | [_, _], _ => rfl
  have F16 := fun_mk (st := s_farthest_of_each) l16 c16 k16
  have b16 := F16.binds (ps := ["tree"]) fun _ _ _ _ _ _ us hl => match us, hl with | [_], _ => rfl
  have F17 := fun_mk (st := s_middles) l17 c17 k17
  have b17 := F17.binds (ps := ["tree"]) fun _ _ _ _ _ _ us hl => match us, hl with | [_], _ => rfl
  have F18 := fun_mk (st := s_fraction) l18 c18 k18
  have b18 := F18.binds (ps := ["above", "below"]) fun _ _ _ _ _ _ us hl => match us, hl with | [_, _], _ => rfl
  have F19 := fun_mk (st := s_half_way) l19 c19 k19
  have b19 := F19.binds (ps := ["tree", "one", "other"]) fun _ _ _ _ _ _ us hl => match us, hl with | [_, _, _], _ => rfl
  have F20 := fun_mk (st := s_middle_point) l20 c20 k20
  have b20 := F20.binds (ps := ["tree"]) fun _ _ _ _ _ _ us hl => match us, hl with | [_], _ => rfl
  have F21 := fun_mk (st := s_sums_from) l21 c21 k21
  have b21 := F21.binds (ps := ["tree"]) fun _ _ _ _ _ _ us hl => match us, hl with | [_], _ => rfl
  have F22 := fun_mk (st := s_least_sums) l22 c22 k22
  have b22 := F22.binds (ps := ["tree"]) fun _ _ _ _ _ _ us hl => match us, hl with | [_], _ => rfl
  have F23 := fun_mk (st := s_total_of) l23 c23 k23
  have b23 := F23.binds (ps := ["tree"]) fun _ _ _ _ _ _ us hl => match us, hl with | [_], _ => rfl
  have F24 := fun_mk (st := s_pairs_by_length) l24 c24 k24
  have b24 := F24.binds (ps := ["tree"]) fun _ _ _ _ _ _ us hl => match us, hl with | [_], _ => rfl
  have F25 := fun_mk (st := s_check_unlike) l25 c25 k25
  have b25 := F25.binds (ps := ["one", "other"]) fun _ _ _ _ _ _ us hl => match us, hl with | [_, _], _ => rfl
  have F26 := fun_mk (st := s_all_joins) l26 c26 k26
  have b26 := F26.binds (ps := ["one", "other", "length"]) fun _ _ _ _ _ _ us hl => match us, hl with | [_, _, _], _ => rfl
  have FCB : FunC K "best_join" "best_join" s_best_join f27 _ cB := ⟨_, _, _, _, _, _, _, _, rfl, l27, c27⟩
  have F27 := fun_mk (st := s_best_join) l27 c27 k27
  have b27 := F27.binds (ps := ["one", "other", "length"]) fun _ _ _ _ _ _ us hl => match us, hl with | [_, _, _], _ => rfl
  have FCW : FunC K "worst_join" "worst_join" s_worst_join f28 _ cW := ⟨_, _, _, _, _, _, _, _, rfl, l28, c28⟩
  have F28 := fun_mk (st := s_worst_join) l28 c28 k28
  have b28 := F28.binds (ps := ["one", "other", "length"]) fun _ _ _ _ _ _ us hl => match us, hl with | [_, _, _], _ => rfl
  have F29 := fun_mk (st := s_lengths_apart) l29 c29 k29
  have b29 := F29.binds (ps := ["tree"]) fun _ _ _ _ _ _ us hl => match us, hl with | [_], _ => rfl
  have F30 := fun_mk (st := s_reaches) l30 c30 k30
  have b30 := F30.binds (ps := ["part", "apart"]) fun _ _ _ _ _ _ us hl => match us, hl with | [_, _], _ => rfl
  have F31 := fun_mk (st := s_u_parts_without) l31 c31 k31
  have b31 := F31.binds (ps := ["tree", "number", "apart"]) fun _ _ _ _ _ _ us hl => match us, hl with | [_, _, _], _ => rfl
  have F32 := fun_mk (st := s_parts_without) l32 c32 k32
  have b32 := F32.binds (ps := ["tree"]) fun _ _ _ _ _ _ us hl => match us, hl with | [_], _ => rfl
  have F33 := fun_mk (st := s_pairs_between) l33 c33 k33
  have b33 := F33.binds (ps := ["places", "part"]) fun _ _ _ _ _ _ us hl => match us, hl with | [_, _], _ => rfl
  have F34 := fun_mk (st := s_changes_of) l34 c34 k34
  have b34 := F34.binds (ps := ["tree", "number", "apart"]) fun _ _ _ _ _ _ us hl => match us, hl with | [_, _, _], _ => rfl
  have FCC : FunC K "best_change" "best_change" s_best_change f35 _ cC := ⟨_, _, _, _, _, _, _, _, rfl, l35, c35⟩
  have F35 := fun_mk (st := s_best_change) l35 c35 k35
  have b35 := F35.binds (ps := ["tree"]) fun _ _ _ _ _ _ us hl => match us, hl with | [_], _ => rfl
  have F36 := fun_mk (st := s_leaves_of) l36 c36 k36
  have b36 := F36.binds (ps := ["tree"]) fun _ _ _ _ _ _ us hl => match us, hl with | [_], _ => rfl
  have F37 := fun_mk (st := s_part_of) l37 c37 k37
  have b37 := F37.binds (ps := ["tree", "places"]) fun _ _ _ _ _ _ us hl => match us, hl with | [_, _], _ => rfl
  have F38 := fun_mk (st := s_without_leaves) l38 c38 k38
  have b38 := F38.binds (ps := ["tree"]) fun _ _ _ _ _ _ us hl => match us, hl with | [_], _ => rfl
  have F39 := fun_mk (st := s_peeled) l39 c39 k39
  have b39 := F39.binds (ps := ["tree"]) fun _ _ _ _ _ _ us hl => match us, hl with | [_], _ => rfl
  have F40 := fun_mk (st := s_places_near) l40 c40 k40
  have b40 := F40.binds (ps := ["tree", "place", "length"]) fun _ _ _ _ _ _ us hl => match us, hl with | [_, _, _], _ => rfl
  have F41 := fun_mk (st := s_helpers) l41 c41 k41
  have b41 := F41.binds (ps := ["tree", "near"]) fun _ _ _ _ _ _ us hl => match us, hl with | [_, _], _ => rfl
  have F42 := fun_mk (st := s_fewest_with) l42 c42 k42
  have b42 := F42.binds (ps := ["chosen", "near", "helpers"]) fun _ _ _ _ _ _ us hl => match us, hl with | [_, _, _], _ => rfl
  have F43 := fun_mk (st := s_fewest_within) l43 c43 k43
  have b43 := F43.binds (ps := ["tree", "length"]) fun _ _ _ _ _ _ us hl => match us, hl with | [_, _], _ => rfl
  have F44 := fun_mk (st := s_law_drawn) l44 c44 k44
  have b44 := F44.binds (ps := ["deck", "tree"]) fun _ _ _ _ _ _ us hl => match us, hl with | [_, _], _ => rfl
  have F45 := fun_mk (st := s_law_longer) l45 c45 k45
  have b45 := F45.binds (ps := ["tree", "times"]) fun _ _ _ _ _ _ us hl => match us, hl with | [_, _], _ => rfl
  have F46 := fun_mk (st := s_law_fraction) l46 c46 k46
  have b46 := F46.binds (ps := ["part", "times"]) fun _ _ _ _ _ _ us hl => match us, hl with | [_, _], _ => rfl
  have F47 := fun_mk (st := s_law_lengths) l47 c47 k47
  have b47 := F47.binds (ps := ["tree", "others", "length", "place"]) fun _ _ _ _ _ _ us hl => match us, hl with | [_, _, _, _], _ => rfl
  have F48 := fun_mk (st := s_law_forms) l48 c48 k48
  have b48 := F48.binds (ps := ["tree", "others", "length", "place"]) fun _ _ _ _ _ _ us hl => match us, hl with | [_, _, _, _], _ => rfl
  have F49 := fun_mk (st := s_law_counted_right) l49 c49 k49
  have b49 := F49.binds (ps := ["tree", "more", "times", "at"]) fun _ _ _ _ _ _ us hl => match us, hl with | [_, _, _, _], _ => rfl
  have F50 := fun_mk (st := s_law) l50 c50 k50
  have T0 : TxtG mg := ⟨PySem.W.mg_none_of X G zlen, PySem.W.mg_none_of X G zmax, PySem.W.mg_none_of X G zmin, PySem.W.mg_none_of X G zint, PySem.W.mg_none_of X G zrange, PySem.W.mg_none_of X G zlist, PySem.W.mg_none_of X G ztuple, PySem.W.mg_none_of X G zabs⟩
  have TW : TxtW mg := ⟨PySem.W.mg_none_of X G ztuple⟩
  have TQ : TxtQ mg := ⟨PySem.W.mg_none_of X G zlen, PySem.W.mg_none_of X G zrange, PySem.W.mg_none_of X G ztuple, PySem.W.mg_none_of X G zenumerate⟩
  have TMM : TxtM mg := ⟨PySem.W.mg_none_of X G ztuple, PySem.W.mg_none_of X G zmax, PySem.W.mg_none_of X G zmin, PySem.W.mg_none_of X G zzip, PySem.W.mg_none_of X G zrange⟩
  have TH : TxtH mg := ⟨PySem.W.mg_none_of X G zlen, PySem.W.mg_of X G zgcd⟩
  have TK : TxtK0 mg := ⟨PySem.W.mg_none_of X G ztuple, PySem.W.mg_none_of X G zenumerate⟩
  have T15 : TxtM15 mg := ⟨PySem.W.mg_none_of X G ztuple, PySem.W.mg_none_of X G zsum, PySem.W.mg_none_of X G zmin, PySem.W.mg_none_of X G zzip, PySem.W.mg_none_of X G zrange⟩
  have T16 : TxtM16 mg := ⟨PySem.W.mg_none_of X G zisinstance, PySem.W.mg_none_of X G zdict, PySem.W.mg_none_of X G zlist, PySem.W.mg_none_of X G zbool, PySem.W.mg_none_of X G zint, PySem.W.mg_none_of X G zlen, PySem.W.mg_none_of X G zsorted, PySem.W.mg_none_of X G zenumerate⟩
  have TE : TxtE mg := ⟨PySem.W.mg_none_of X G zdict, PySem.W.mg_none_of X G zzip, PySem.W.mg_none_of X G zmax, PySem.W.mg_none_of X G zlen, PySem.W.mg_none_of X G zrange, PySem.W.mg_none_of X G ztuple, PySem.W.mg_none_of X G zenumerate, PySem.W.mg_none_of X G zmin⟩
  have T09 : TxtM09 mg := ⟨PySem.W.mg_none_of X G zlen, PySem.W.mg_none_of X G zmax, PySem.W.mg_none_of X G zrange⟩
  have TN : TxtN mg := ⟨PySem.W.mg_none_of X G zlen, PySem.W.mg_none_of X G zsorted⟩
  have TJ : TxtJ mg := ⟨PySem.W.mg_none_of X G zmax, PySem.W.mg_none_of X G zzip⟩
  have TB2 : TxtB mg := ⟨PySem.W.mg_none_of X G zmin, PySem.W.mg_none_of X G zmax⟩
  have TLv : TxtL mg := ⟨PySem.W.mg_none_of X G zlen⟩
  have TF : TxtF mg := ⟨PySem.W.mg_none_of X G zzip, PySem.W.mg_none_of X G zsorted, PySem.W.mg_none_of X G zlist, PySem.W.mg_none_of X G zany, PySem.W.mg_none_of X G zlen, PySem.W.mg_none_of X G ztuple⟩
  have T35 : Txt35 mg := ⟨PySem.W.mg_none_of X G zlen, PySem.W.mg_none_of X G ztuple, PySem.W.mg_none_of X G zlist, PySem.W.mg_none_of X G zrange⟩
  have KC : KtC K cKeptTree := ⟨⟨pgKeptTree, hdKeptTree, poKeptTree, saKeptTree⟩, nKeptTree_tree⟩
  have FKeptTreeinit := fun_mk (st := s_KeptTree_init) lKeptTreeinit cKeptTreeinit kKeptTreeinit
  have bKeptTreeinit := FKeptTreeinit.binds (ps := ["self", "tree"]) fun _ _ _ _ _ _ us hl => match us, hl with | [_, _], _ => rfl
  have FKeptTreetree_now := fun_mk (st := s_KeptTree_tree_now) lKeptTreetree_now cKeptTreetree_now kKeptTreetree_now
  have bKeptTreetree_now := FKeptTreetree_now.binds (ps := ["self"]) fun _ _ _ _ _ _ us hl => match us, hl with | [_], _ => rfl
  have FKeptTreefarthest_now := fun_mk (st := s_KeptTree_farthest_now) lKeptTreefarthest_now cKeptTreefarthest_now kKeptTreefarthest_now
  have bKeptTreefarthest_now := FKeptTreefarthest_now.binds (ps := ["self"]) fun _ _ _ _ _ _ us hl => match us, hl with | [_], _ => rfl
  have FKeptTreemiddle_now := fun_mk (st := s_KeptTree_middle_now) lKeptTreemiddle_now cKeptTreemiddle_now kKeptTreemiddle_now
  have bKeptTreemiddle_now := FKeptTreemiddle_now.binds (ps := ["self"]) fun _ _ _ _ _ _ us hl => match us, hl with | [_], _ => rfl
  have C_law_deck : ∀ base : Heap, Cal l.prog w K mg base 1 "_law_deck" (spDeck K) := fun base => ⟨f1, _, _, ok_deck F1 T0, PySem.W.mg_of X G a1, k1, b1⟩
  have C_law_draw : ∀ base : Heap, Cal l.prog w K mg base 1 "_law_draw" spDraw := fun base => ⟨f2, _, _, ok_draw F2 T0, PySem.W.mg_of X G a2, k2, b2⟩
  have C_law_names : ∀ base : Heap, Cal l.prog w K mg base 2 "_law_names" spNames := fun base => ⟨f3, _, _, ok_names F3 T0 (C_law_draw base), PySem.W.mg_of X G a3, k3, b3⟩
  have C_law_tree : ∀ base : Heap, Cal l.prog w K mg base 3 "_law_tree" spTree := fun base => ⟨f4, _, _, ok_tree F4 T0 (C_law_draw base) (C_law_names base), PySem.W.mg_of X G a4, k4, b4⟩
  have C_ties_of_each : ∀ base : Heap, Cal l.prog w K mg base 1 "_ties_of_each" spTies := fun base => ⟨f5, _, _, ok_ties_of_each F5, PySem.W.mg_of X G a5, k5, b5⟩
  have Cwalk_from : ∀ base : Heap, Cal l.prog w K mg base 2 "walk_from" spWalk := fun base => ⟨f6, _, _, ok_walk_from F6 (C_ties_of_each base), PySem.W.mg_of X G a6, k6, b6⟩
  have CCwalk_from : ∀ base : Heap, Cal l.prog w K mg base 2 "walk_from" spWalkC := fun base => ⟨f6, _, _, ok_walk_fromC F6 (C_ties_of_each base), PySem.W.mg_of X G a6, k6, b6⟩
  have Ccheck_places : ∀ base : Heap, Cal l.prog w K mg base 1 "check_places" spCheck := fun base => ⟨f7, _, _, ok_check_places F7, PySem.W.mg_of X G a7, k7, b7⟩
  have Clengths_from : ∀ base : Heap, Cal l.prog w K mg base 3 "lengths_from" spLens := fun base => ⟨f8, _, _, ok_lengths_from F8 TW (Ccheck_places base) (Cwalk_from base), PySem.W.mg_of X G a8, k8, b8⟩
  have Clength_between : ∀ base : Heap, Cal l.prog w K mg base 3 "length_between" spLen := fun base => ⟨f9, _, _, ok_length_between F9 (Ccheck_places base) (Cwalk_from base), PySem.W.mg_of X G a9, k9, b9⟩
  have Cway_between : ∀ base : Heap, Cal l.prog w K mg base 3 "way_between" spWay := fun base => ⟨f10, _, _, ok_way_between F10 TW (Ccheck_places base) (Cwalk_from base), PySem.W.mg_of X G a10, k10, b10⟩
  have Cpairs_in_order : ∀ base : Heap, Cal l.prog w K mg base 4 "pairs_in_order" spPio := fun base => ⟨f11, _, _, ok_pio F11 TQ (Clengths_from base), PySem.W.mg_of X G a11, k11, b11⟩
  have Cfarthest : ∀ base : Heap, Cal l.prog w K mg base 5 "farthest" spFarthest := fun base => ⟨f12, _, _, ok_farthest F12 (Cpairs_in_order base), PySem.W.mg_of X G a12, k12, b12⟩
  have Call_farthest : ∀ base : Heap, Cal l.prog w K mg base 6 "all_farthest" spAllFarthest := fun base => ⟨f13, _, _, ok_all_farthest F13 TQ (Cpairs_in_order base) (Cfarthest base), PySem.W.mg_of X G a13, k13, b13⟩
  have Cnth_farthest : ∀ base : Heap, LamX.TabB base mg cB PtB → LamX.TabB base mg cW PtW → LamX.TabB base mg cC PtC → LamX.TabB base mg cN PtN → Cal l.prog w K mg base 5 "nth_farthest" (spNth (TL4 PtB PtW PtC PtN)) := fun base TBB TBW TBC TBN => ⟨f14, _, _, ok_nth FCN TN hmN huN TBN (Cpairs_in_order base), PySem.W.mg_of X G a14, k14, b14⟩
  have Ccount_so_far : ∀ base : Heap, Cal l.prog w K mg base 5 "count_so_far" spCount := fun base => ⟨f15, _, _, ok_count F15 T09 (Cpairs_in_order base), PySem.W.mg_of X G a15, k15, b15⟩
  have Cfarthest_of_each : ∀ base : Heap, Cal l.prog w K mg base 4 "farthest_of_each" spFoe := fun base => ⟨f16, _, _, ok_foe F16 TMM (Clengths_from base), PySem.W.mg_of X G a16, k16, b16⟩
  have Cmiddles : ∀ base : Heap, Cal l.prog w K mg base 5 "middles" spMid := fun base => ⟨f17, _, _, ok_middles F17 TMM (Cfarthest_of_each base), PySem.W.mg_of X G a17, k17, b17⟩
  have C_fraction : ∀ base : Heap, Cal l.prog w K mg base 1 "_fraction" spFrac := fun base => ⟨f18, _, _, ok_fraction F18 TH, PySem.W.mg_of X G a18, k18, b18⟩
  have C_half_way : ∀ base : Heap, Cal l.prog w K mg base 4 "_half_way" spHalfWay := fun base => ⟨f19, _, _, ok_half_way F19 TH (Cway_between base) (Clength_between base) (C_fraction base), PySem.W.mg_of X G a19, k19, b19⟩
  have Cmiddle_point : ∀ base : Heap, Cal l.prog w K mg base 6 "middle_point" spMp := fun base => ⟨f20, _, _, ok_mp F20 (Cfarthest base) (C_half_way base) (C_fraction base), PySem.W.mg_of X G a20, k20, b20⟩
  have Csums_from : ∀ base : Heap, Cal l.prog w K mg base 4 "sums_from" spSums := fun base => ⟨f21, _, _, ok_sums F21 T15 (Clengths_from base), PySem.W.mg_of X G a21, k21, b21⟩
  have Cleast_sums : ∀ base : Heap, Cal l.prog w K mg base 5 "least_sums" spLeast := fun base => ⟨f22, _, _, ok_least_sums F22 T15 (Csums_from base), PySem.W.mg_of X G a22, k22, b22⟩
  have Ctotal_of : ∀ base : Heap, Cal l.prog w K mg base 5 "total_of" spTotal := fun base => ⟨f23, _, _, ok_total F23 T15 (Cpairs_in_order base), PySem.W.mg_of X G a23, k23, b23⟩
  have Cpairs_by_length : ∀ base : Heap, Cal l.prog w K mg base 5 "pairs_by_length" spByLen := fun base => ⟨f24, _, _, ok_by_len F24 T16 (Cpairs_in_order base), PySem.W.mg_of X G a24, k24, b24⟩
  have C_check_unlike : ∀ base : Heap, Cal l.prog w K mg base 1 "_check_unlike" spUnlike := fun base => ⟨f25, _, _, ok_check_unlike F25, PySem.W.mg_of X G a25, k25, b25⟩
  have C_all_joins : ∀ base : Heap, Cal l.prog w K mg base 5 "_all_joins" spAllJ := fun base => ⟨f26, _, _, ok_all_joins F26 TJ (C_check_unlike base) (Cfarthest_of_each base), PySem.W.mg_of X G a26, k26, b26⟩
  have Cbest_join : ∀ base : Heap, LamX.TabB base mg cB PtB → LamX.TabB base mg cW PtW → LamX.TabB base mg cC PtC → LamX.TabB base mg cN PtN → Cal l.prog w K mg base 6 "best_join" (spBest (TL4 PtB PtW PtC PtN) id) := fun base TBB TBW TBC TBN => ⟨f27, _, _, ok_best FCB TB2 hmB huB TBB (C_all_joins base), PySem.W.mg_of X G a27, k27, b27⟩
  have Cworst_join : ∀ base : Heap, LamX.TabB base mg cB PtB → LamX.TabB base mg cW PtW → LamX.TabB base mg cC PtC → LamX.TabB base mg cN PtN → Cal l.prog w K mg base 6 "worst_join" (spBest (TL4 PtB PtW PtC PtN) fun i => -i) := fun base TBB TBW TBC TBN => ⟨f28, _, _, ok_worst FCW TB2 hmW huW TBW (C_all_joins base), PySem.W.mg_of X G a28, k28, b28⟩
  have C_lengths_apart : ∀ base : Heap, Cal l.prog w K mg base 4 "_lengths_apart" spApart := fun base => ⟨f29, _, _, ok_apart F29 TE (Clengths_from base), PySem.W.mg_of X G a29, k29, b29⟩
  have C_reaches : ∀ base : Heap, Cal l.prog w K mg base 1 "_reaches" spReaches := fun base => ⟨f30, _, _, ok_reaches F30 TE, PySem.W.mg_of X G a30, k30, b30⟩
  have C_parts_without : ∀ base : Heap, Cal l.prog w K mg base 3 "_parts_without" spParts := fun base => ⟨f31, _, _, ok_parts F31 (CCwalk_from base) (C_reaches base), PySem.W.mg_of X G a31, k31, b31⟩
  have Cparts_without : ∀ base : Heap, Cal l.prog w K mg base 5 "parts_without" spPartsW := fun base => ⟨f32, _, _, ok_parts_without F32 TE (C_lengths_apart base) (C_parts_without base), PySem.W.mg_of X G a32, k32, b32⟩
  have C_pairs_between : ∀ base : Heap, Cal l.prog w K mg base 1 "_pairs_between" spBetween := fun base => ⟨f33, _, _, ok_between F33 TE, PySem.W.mg_of X G a33, k33, b33⟩
  have C_changes_of : ∀ base : Heap, Cal l.prog w K mg base 4 "_changes_of" spChanges := fun base => ⟨f34, _, _, ok_changes F34 TE (C_parts_without base) (C_pairs_between base), PySem.W.mg_of X G a34, k34, b34⟩
  have Cbest_change : ∀ base : Heap, LamX.TabB base mg cB PtB → LamX.TabB base mg cW PtW → LamX.TabB base mg cC PtC → LamX.TabB base mg cN PtN → Cal l.prog w K mg base 5 "best_change" (spBC (TL4 PtB PtW PtC PtN)) := fun base TBB TBW TBC TBN => ⟨f35, _, _, ok_best_change FCC TE hmC huC TBC (C_lengths_apart base) (C_changes_of base), PySem.W.mg_of X G a35, k35, b35⟩
  have Cleaves_of : ∀ base : Heap, Cal l.prog w K mg base 1 "leaves_of" spLeaves := fun base => ⟨f36, _, _, ok_leaves_of F36 TK, PySem.W.mg_of X G a36, k36, b36⟩
  have Cpart_of : ∀ base : Heap, Cal l.prog w K mg base 1 "part_of" spPart := fun base => ⟨f37, _, _, ok_part_of F37 TK, PySem.W.mg_of X G a37, k37, b37⟩
  have Cwithout_leaves : ∀ base : Heap, Cal l.prog w K mg base 2 "without_leaves" spWithout := fun base => ⟨f38, _, _, ok_without_leaves F38 TLv (Cleaves_of base) (Cpart_of base), PySem.W.mg_of X G a38, k38, b38⟩
  have Cpeeled : ∀ base : Heap, Cal l.prog w K mg base 3 "peeled" spPeeled := fun base => ⟨f39, _, _, ok_peeled F39 TLv (Cwithout_leaves base), PySem.W.mg_of X G a39, k39, b39⟩
  have C_places_near : ∀ base : Heap, Cal l.prog w K mg base 4 "_places_near" spNear := fun base => ⟨f40, _, _, ok_places_near F40 TF (Clengths_from base), PySem.W.mg_of X G a40, k40, b40⟩
  have C_helpers : ∀ base : Heap, Cal l.prog w K mg base 4 "_helpers" spHelpers := fun base => ⟨f41, _, _, ok_helpers F41 TF (Clengths_from base) (Cway_between base), PySem.W.mg_of X G a41, k41, b41⟩
  have C_fewest_with : ∀ base : Heap, Cal l.prog w K mg base 1 "_fewest_with" spFewW := fun base => ⟨f42, _, _, ok_fewest_with F42 TF, PySem.W.mg_of X G a42, k42, b42⟩
  have Cfewest_within : ∀ base : Heap, Cal l.prog w K mg base 5 "fewest_within" spFew := fun base => ⟨f43, _, _, ok_fewest_within F43 TF (C_places_near base) (C_helpers base) (C_fewest_with base), PySem.W.mg_of X G a43, k43, b43⟩
  have C_law_drawn : ∀ base : Heap, Cal l.prog w K mg base 2 "_law_drawn" spDrawn := fun base => ⟨f44, _, _, ok_drawn F44 T35 (C_law_draw base), PySem.W.mg_of X G a44, k44, b44⟩
  have Mtree_now : ∀ base : Heap, CalM l.prog w K mg base 1 cKeptTree "tree_now" (spNow cKeptTree) := fun base => ⟨_, _, _, ok_now KC FKeptTreetree_now, KC.cl, ⟨aKeptTreetree_now, iKeptTreetree_now, kKeptTreetree_now⟩, bKeptTreetree_now⟩
  have MKeptTree : ∀ base : Heap, CalK l.prog w K mg base 1 cKeptTree "KeptTree" (spKInit cKeptTree) := fun base => ⟨_, _, _, ok_kinit KC FKeptTreeinit, ⟨mkKeptTree, aKeptTreeinit, iKeptTreeinit, kcKeptTree⟩, PySem.W.mg_of X G gKeptTree, bKeptTreeinit⟩
  have Mfarthest_now : ∀ base : Heap, CalM l.prog w K mg base 6 cKeptTree "farthest_now" (spFarNow cKeptTree) := fun base => ⟨_, _, _, ok_far_now KC FKeptTreefarthest_now (Cfarthest base), KC.cl, ⟨aKeptTreefarthest_now, iKeptTreefarthest_now, kKeptTreefarthest_now⟩, bKeptTreefarthest_now⟩
  have Mmiddle_now : ∀ base : Heap, CalM l.prog w K mg base 7 cKeptTree "middle_now" (spMidNow cKeptTree) := fun base => ⟨_, _, _, ok_mid_now KC FKeptTreemiddle_now (Cmiddle_point base), KC.cl, ⟨aKeptTreemiddle_now, iKeptTreemiddle_now, kKeptTreemiddle_now⟩, bKeptTreemiddle_now⟩
  have C_law_longer : ∀ base : Heap, Cal l.prog w K mg base 1 "_law_longer" spLonger := fun base => ⟨f45, _, _, ok_longer F45 T35, PySem.W.mg_of X G a45, k45, b45⟩
  have C_law_fraction : ∀ base : Heap, Cal l.prog w K mg base 1 "_law_fraction" spLFrac := fun base => ⟨f46, _, _, ok_lfrac F46, PySem.W.mg_of X G a46, k46, b46⟩
  have C_law_lengths : ∀ base : Heap, LamX.TabB base mg cB PtB → LamX.TabB base mg cW PtW → LamX.TabB base mg cC PtC → LamX.TabB base mg cN PtN → Cal l.prog w K mg base 7 "_law_lengths" (spLL (TL4 PtB PtW PtC PtN)) := fun base TBB TBW TBC TBN => ⟨f47, _, _, ok_ll F47 T35 (Clengths_from base) (Clength_between base) (Cfarthest base) (Cfarthest_of_each base) (Cmiddles base) (Ctotal_of base) (Csums_from base) (Cpairs_by_length base) (Cbest_join base TBB TBW TBC TBN) (Cworst_join base TBB TBW TBC TBN) (Cparts_without base) (Cpeeled base) (Cbest_change base TBB TBW TBC TBN), PySem.W.mg_of X G a47, k47, b47⟩
  have C_law_forms : ∀ base : Heap, LamX.TabB base mg cB PtB → LamX.TabB base mg cW PtW → LamX.TabB base mg cC PtC → LamX.TabB base mg cN PtN → Cal l.prog w K mg base 7 "_law_forms" (spForms (TL4 PtB PtW PtC PtN)) := fun base TBB TBW TBC TBN => ⟨f48, _, _, ok_forms F48 T35 (Cway_between base) (Cfarthest base) (Call_farthest base) (Cmiddles base) (Cleast_sums base) (Cpairs_by_length base) (Cbest_join base TBB TBW TBC TBN) (Cworst_join base TBB TBW TBC TBN) (Cleaves_of base) (Cpeeled base) (Cbest_change base TBB TBW TBC TBN), PySem.W.mg_of X G a48, k48, b48⟩
  have C_law_counted_right : ∀ base : Heap, LamX.TabB base mg cB PtB → LamX.TabB base mg cW PtW → LamX.TabB base mg cC PtC → LamX.TabB base mg cN PtN → Cal l.prog w K mg base 8 "_law_counted_right" (spCntR (TL4 PtB PtW PtC PtN)) := fun base TBB TBW TBC TBN => ⟨f49, _, _, ok_cntr F49 (Cnth_farthest base TBB TBW TBC TBN) (Ccount_so_far base) (Cmiddle_point base) (C_law_fraction base) (Cfarthest base) (MKeptTree base) (Mtree_now base) (Mfarthest_now base) (Mmiddle_now base), PySem.W.mg_of X G a49, k49, b49⟩
  have tB : PySem.W.tabIn K "best_join" = some (cB, PtB) := by
    unfold PySem.W.tabIn
    simp only [a27, l27, kcB, vPB]
  have tW : PySem.W.tabIn K "worst_join" = some (cW, PtW) := by
    unfold PySem.W.tabIn
    simp only [a28, l28, kcW, vPW]
  have tC : PySem.W.tabIn K "best_change" = some (cC, PtC) := by
    unfold PySem.W.tabIn
    simp only [a35, l35, kcC, vPC]
  have tN : PySem.W.tabIn K "nth_farthest" = some (cN, PtN) := by
    unfold PySem.W.tabIn
    simp only [a14, l14, kcN, vPN]
  have four : ∀ {R : Addr × Addr → Prop}, R (cB, PtB) → R (cW, PtW) → R (cC, PtC) → R (cN, PtN) → ∀ p ∈ [(cB, PtB), (cW, PtW), (cC, PtC), (cN, PtN)], R p := fun rB rW rC rN p hp => by
    simp only [List.mem_cons, List.not_mem_nil, or_false] at hp
    rcases hp with e | e | e | e <;> subst e
    · exact rB
    · exact rW
    · exact rC
    · exact rN
  have fourT : ∀ {R : Addr × Str → Prop}, R (PtB, qB) → R (PtW, qW) → R (PtC, qC) → R (PtN, qLam) → ∀ p ∈ TL4 PtB PtW PtC PtN, R p := fun rB rW rC rN p hp => by
    unfold TL4 at hp
    simp only [List.mem_cons, List.not_mem_nil, or_false] at hp
    rcases hp with e | e | e | e <;> subst e
    · exact rB
    · exact rW
    · exact rC
    · exact rN
  refine ⟨_, [(cB, PtB), (cW, PtW), (cC, PtC), (cN, PtN)], spLawT K (TL4 PtB PtW PtC PtN), four (R := fun p => h.get? p.2 = some { cls := .none, data := .fields #[] }) (tabB _ _ tB).2 (tabW _ _ tW).2 (tabC _ _ tC).2 (tabN _ _ tN).2, four (R := fun p => K.lookup p.2 = none) nTB nTW nTC nTN, four (R := fun p => PySem.W.CodeHd h p.1 p.2) (tabB _ _ tB).1 (tabW _ _ tW).1 (tabC _ _ tC).1 (tabN _ _ tN).1, fun s v => .of_eq rfl, fun H a ns hl hb hH hS => ?_, fun base _ _ TB => ok_law F50 T35 (C_law_deck base) (C_law_draw base) (C_law_tree base) (C_law_drawn base) (C_law_longer base) (C_law_lengths base (TB (cB, PtB) (List.mem_cons_self ..)) (TB (cW, PtW) (List.mem_cons_of_mem _ (List.mem_cons_self ..))) (TB (cC, PtC) (List.mem_cons_of_mem _ (List.mem_cons_of_mem _ (List.mem_cons_self ..)))) (TB (cN, PtN) (List.mem_cons_of_mem _ (List.mem_cons_of_mem _ (List.mem_cons_of_mem _ (List.mem_cons_self ..)))))) (C_law_forms base (TB (cB, PtB) (List.mem_cons_self ..)) (TB (cW, PtW) (List.mem_cons_of_mem _ (List.mem_cons_self ..))) (TB (cC, PtC) (List.mem_cons_of_mem _ (List.mem_cons_of_mem _ (List.mem_cons_self ..)))) (TB (cN, PtN) (List.mem_cons_of_mem _ (List.mem_cons_of_mem _ (List.mem_cons_of_mem _ (List.mem_cons_self ..)))))) (C_law_counted_right base (TB (cB, PtB) (List.mem_cons_self ..)) (TB (cW, PtW) (List.mem_cons_of_mem _ (List.mem_cons_self ..))) (TB (cC, PtC) (List.mem_cons_of_mem _ (List.mem_cons_of_mem _ (List.mem_cons_self ..)))) (TB (cN, PtN) (List.mem_cons_of_mem _ (List.mem_cons_of_mem _ (List.mem_cons_of_mem _ (List.mem_cons_self ..)))))) (Cfewest_within base)⟩
  refine ⟨a, ns, rfl, hS, hl, hb, fourT (LamX.TabS.nil (hH (cB, PtB) (List.mem_cons_self ..))) (LamX.TabS.nil (hH (cW, PtW) (List.mem_cons_of_mem _ (List.mem_cons_self ..)))) (LamX.TabS.nil (hH (cC, PtC) (List.mem_cons_of_mem _ (List.mem_cons_of_mem _ (List.mem_cons_self ..))))) (LamX.TabS.nil (hH (cN, PtN) (List.mem_cons_of_mem _ (List.mem_cons_of_mem _ (List.mem_cons_of_mem _ (List.mem_cons_self ..)))))), fun _ => rfl⟩
end Far
open PySem PySem.W PyProof.Rows in
set_option maxRecDepth 100000 in
set_option maxHeartbeats 0 in
theorem PySem.Challenge.cw_farplaces_k35_whole_so_many_times_as_lon_holds : PySem.Challenge.rw_farplaces_k35_whole_so_many_times_as_lon.Holds := by
  w_on; o_law; k_head; (case hw => w_witness2)
  k_fill
  refine Far.walk_nmN (l := PySem.Challenge.rw_farplaces_k35_whole_so_many_times_as_lon) (k := 9) (x := "script") (nB := "best_join") (nW := "worst_join") (nC := "best_change") (nN := "nth_farthest") ⟨rfl, by decide, by decide⟩ rfl rfl (by rfl) (by rfl) (by rfl) (by rfl) (fun w h Y => PySem.W.km_in_of Y) ?F
  case F =>
    intro w mg fa h KX G hmg tabB tabW tabC tabN
    refine' Far.all_mk KX G hmg ?kcB ?vPB ?nTB tabB ?kcW ?vPW ?nTW tabW ?kcC ?vPC ?nTC tabC ?kcN ?vPN ?nTN tabN ?neBW ?neBC ?neBN ?neWC ?neWN ?neCN ?a1 ?l1 ?c1 ?k1 ?a2 ?l2 ?c2 ?k2 ?a3 ?l3 ?c3 ?k3 ?a4 ?l4 ?c4 ?k4 ?a5 ?l5 ?c5 ?k5 ?a6 ?l6 ?c6 ?k6 ?a7 ?l7 ?c7 ?k7 ?a8 ?l8 ?c8 ?k8 ?a9 ?l9 ?c9 ?k9 ?a10 ?l10 ?c10 ?k10 ?a11 ?l11 ?c11 ?k11 ?a12 ?l12 ?c12 ?k12 ?a13 ?l13 ?c13 ?k13 ?a14 ?l14 ?c14 ?k14 ?a15 ?l15 ?c15 ?k15 ?a16 ?l16 ?c16 ?k16 ?a17 ?l17 ?c17 ?k17 ?a18 ?l18 ?c18 ?k18 ?a19 ?l19 ?c19 ?k19 ?a20 ?l20 ?c20 ?k20 ?a21 ?l21 ?c21 ?k21 ?a22 ?l22 ?c22 ?k22 ?a23 ?l23 ?c23 ?k23 ?a24 ?l24 ?c24 ?k24 ?a25 ?l25 ?c25 ?k25 ?a26 ?l26 ?c26 ?k26 ?a27 ?l27 ?c27 ?k27 ?a28 ?l28 ?c28 ?k28 ?a29 ?l29 ?c29 ?k29 ?a30 ?l30 ?c30 ?k30 ?a31 ?l31 ?c31 ?k31 ?a32 ?l32 ?c32 ?k32 ?a33 ?l33 ?c33 ?k33 ?a34 ?l34 ?c34 ?k34 ?a35 ?l35 ?c35 ?k35 ?a36 ?l36 ?c36 ?k36 ?a37 ?l37 ?c37 ?k37 ?a38 ?l38 ?c38 ?k38 ?a39 ?l39 ?c39 ?k39 ?a40 ?l40 ?c40 ?k40 ?a41 ?l41 ?c41 ?k41 ?a42 ?l42 ?c42 ?k42 ?a43 ?l43 ?c43 ?k43 ?a44 ?l44 ?c44 ?k44 ?a45 ?l45 ?c45 ?k45 ?a46 ?l46 ?c46 ?k46 ?a47 ?l47 ?c47 ?k47 ?a48 ?l48 ?c48 ?k48 ?a49 ?l49 ?c49 ?k49 ?a50 ?l50 ?c50 ?k50 ?zabs ?zany ?zbool ?zdict ?zenumerate ?zint ?zisinstance ?zlen ?zlist ?zmax ?zmin ?zrange ?zsorted ?zsum ?ztuple ?zzip ?zgcd ?gKeptTree ?pgKeptTree ?hdKeptTree ?poKeptTree ?saKeptTree ?mkKeptTree ?kcKeptTree ?nKeptTree_tree ?aKeptTreeinit ?iKeptTreeinit ?lKeptTreeinit ?cKeptTreeinit ?kKeptTreeinit ?aKeptTreetree_now ?iKeptTreetree_now ?lKeptTreetree_now ?cKeptTreetree_now ?kKeptTreetree_now ?aKeptTreefarthest_now ?iKeptTreefarthest_now ?lKeptTreefarthest_now ?cKeptTreefarthest_now ?kKeptTreefarthest_now ?aKeptTreemiddle_now ?iKeptTreemiddle_now ?lKeptTreemiddle_now ?cKeptTreemiddle_now ?kKeptTreemiddle_now
    (case a1 => k_is); (case l1 => k_is); (case c1 => k_is); (case k1 => k_is); (case a2 => k_is); (case l2 => k_is); (case c2 => k_is); (case k2 => k_is); (case a3 => k_is); (case l3 => k_is); (case c3 => k_is); (case k3 => k_is); (case a4 => k_is); (case l4 => k_is); (case c4 => k_is); (case k4 => k_is); (case a5 => k_is); (case l5 => k_is); (case c5 => k_is); (case k5 => k_is); (case a6 => k_is); (case l6 => k_is); (case c6 => k_is); (case k6 => k_is); (case a7 => k_is); (case l7 => k_is); (case c7 => k_is); (case k7 => k_is); (case a8 => k_is); (case l8 => k_is); (case c8 => k_is); (case k8 => k_is); (case a9 => k_is); (case l9 => k_is); (case c9 => k_is); (case k9 => k_is); (case a10 => k_is); (case l10 => k_is); (case c10 => k_is); (case k10 => k_is); (case a11 => k_is); (case l11 => k_is); (case c11 => k_is); (case k11 => k_is); (case a12 => k_is); (case l12 => k_is); (case c12 => k_is); (case k12 => k_is); (case a13 => k_is); (case l13 => k_is); (case c13 => k_is); (case k13 => k_is); (case a14 => k_is); (case l14 => k_is); (case c14 => k_is); (case k14 => k_is); (case a15 => k_is); (case l15 => k_is); (case c15 => k_is); (case k15 => k_is); (case a16 => k_is); (case l16 => k_is); (case c16 => k_is); (case k16 => k_is); (case a17 => k_is); (case l17 => k_is); (case c17 => k_is); (case k17 => k_is); (case a18 => k_is); (case l18 => k_is); (case c18 => k_is); (case k18 => k_is); (case a19 => k_is); (case l19 => k_is); (case c19 => k_is); (case k19 => k_is); (case a20 => k_is); (case l20 => k_is); (case c20 => k_is); (case k20 => k_is); (case a21 => k_is); (case l21 => k_is); (case c21 => k_is); (case k21 => k_is); (case a22 => k_is); (case l22 => k_is); (case c22 => k_is); (case k22 => k_is); (case a23 => k_is); (case l23 => k_is); (case c23 => k_is); (case k23 => k_is); (case a24 => k_is); (case l24 => k_is); (case c24 => k_is); (case k24 => k_is); (case a25 => k_is); (case l25 => k_is); (case c25 => k_is); (case k25 => k_is); (case a26 => k_is); (case l26 => k_is); (case c26 => k_is); (case k26 => k_is); (case a27 => k_is); (case l27 => k_is); (case c27 => k_is); (case k27 => k_is); (case a28 => k_is); (case l28 => k_is); (case c28 => k_is); (case k28 => k_is); (case a29 => k_is); (case l29 => k_is); (case c29 => k_is); (case k29 => k_is); (case a30 => k_is); (case l30 => k_is); (case c30 => k_is); (case k30 => k_is); (case a31 => k_is); (case l31 => k_is); (case c31 => k_is); (case k31 => k_is); (case a32 => k_is); (case l32 => k_is); (case c32 => k_is); (case k32 => k_is); (case a33 => k_is); (case l33 => k_is); (case c33 => k_is); (case k33 => k_is); (case a34 => k_is); (case l34 => k_is); (case c34 => k_is); (case k34 => k_is); (case a35 => k_is); (case l35 => k_is); (case c35 => k_is); (case k35 => k_is); (case a36 => k_is); (case l36 => k_is); (case c36 => k_is); (case k36 => k_is); (case a37 => k_is); (case l37 => k_is); (case c37 => k_is); (case k37 => k_is); (case a38 => k_is); (case l38 => k_is); (case c38 => k_is); (case k38 => k_is); (case a39 => k_is); (case l39 => k_is); (case c39 => k_is); (case k39 => k_is); (case a40 => k_is); (case l40 => k_is); (case c40 => k_is); (case k40 => k_is); (case a41 => k_is); (case l41 => k_is); (case c41 => k_is); (case k41 => k_is); (case a42 => k_is); (case l42 => k_is); (case c42 => k_is); (case k42 => k_is); (case a43 => k_is); (case l43 => k_is); (case c43 => k_is); (case k43 => k_is); (case a44 => k_is); (case l44 => k_is); (case c44 => k_is); (case k44 => k_is); (case a45 => k_is); (case l45 => k_is); (case c45 => k_is); (case k45 => k_is); (case a46 => k_is); (case l46 => k_is); (case c46 => k_is); (case k46 => k_is); (case a47 => k_is); (case l47 => k_is); (case c47 => k_is); (case k47 => k_is); (case a48 => k_is); (case l48 => k_is); (case c48 => k_is); (case k48 => k_is); (case a49 => k_is); (case l49 => k_is); (case c49 => k_is); (case k49 => k_is); (case a50 => k_is); (case l50 => k_is); (case c50 => k_is); (case k50 => k_is); (case zabs => k_is); (case zany => k_is); (case zbool => k_is); (case zdict => k_is); (case zenumerate => k_is); (case zint => k_is); (case zisinstance => k_is); (case zlen => k_is); (case zlist => k_is); (case zmax => k_is); (case zmin => k_is); (case zrange => k_is); (case zsorted => k_is); (case zsum => k_is); (case ztuple => k_is); (case zzip => k_is); (case zgcd => k_is); (case gKeptTree => k_is); (case pgKeptTree => k_is); (case hdKeptTree => k_is); (case poKeptTree => k_is); (case saKeptTree => k_is); (case mkKeptTree => k_is); (case kcKeptTree => k_is); (case nKeptTree_tree => k_is); (case aKeptTreeinit => k_is); (case iKeptTreeinit => k_is); (case lKeptTreeinit => k_is); (case cKeptTreeinit => k_is); (case kKeptTreeinit => k_is); (case aKeptTreetree_now => k_is); (case iKeptTreetree_now => k_is); (case lKeptTreetree_now => k_is); (case cKeptTreetree_now => k_is); (case kKeptTreetree_now => k_is); (case aKeptTreefarthest_now => k_is); (case iKeptTreefarthest_now => k_is); (case lKeptTreefarthest_now => k_is); (case cKeptTreefarthest_now => k_is); (case kKeptTreefarthest_now => k_is); (case aKeptTreemiddle_now => k_is); (case iKeptTreemiddle_now => k_is); (case lKeptTreemiddle_now => k_is); (case cKeptTreemiddle_now => k_is); (case kKeptTreemiddle_now => k_is)
    (case kcB => k_is); (case vPB => exact rfl); (case nTB => first | k_is | exact rfl); (case kcW => k_is); (case vPW => exact rfl); (case nTW => first | k_is | exact rfl); (case kcC => k_is); (case vPC => exact rfl); (case nTC => first | k_is | exact rfl); (case kcN => k_is); (case vPN => exact rfl); (case nTN => first | k_is | exact rfl); (case neBW => decide); (case neBC => decide); (case neBN => decide); (case neWC => decide); (case neWN => decide); (case neCN => decide)

